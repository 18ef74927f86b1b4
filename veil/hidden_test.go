package veil

import (
	"math/rand"
	"slices"
	"strings"
	"testing"

	"veil/api"
)

// hiding is rules, with rows of which ann sees something and others of which she sees nothing. What stands at the ? of a row she does not see either.
type hiding struct {
	laws   []string // by all of which she sees the same
	shown  []string
	hidden []string
}

var hidings = []hiding{
	{
		laws:   []string{"allow docs eq 2 me", "allow docs and eq 2 me any;allow docs eq 2 'nobody'", "allow docs in 2 docs 2 2", "mask docs 1 0 eq 2 me;allow docs eq 2 me", "allow docs eq 2 me;mask team 1 '' not any"},
		shown:  []string{"docs 1 'ann'", "docs 2 'ann'"},
		hidden: []string{"docs 1 'bob'", "docs 2 ''", "team 'ann' 'ann'", "team 'bob' 'ann'", "team 'ann' 'bob'"},
	},
	{
		laws:   []string{"allow docs in 2 team 1 2", "allow docs in 2 team 1 2;mask docs 2 '' in 2 team 1 2", "allow docs and not eq 2 'h' in 2 team 1 2", "allow docs and in 2 team 1 2 or eq 2 'a' eq 2 'b'"},
		shown:  []string{"docs 1 'a'", "docs 2 'a'", "docs 1 'b'", "team 'a' 'ann'", "team 'b' 'ann'"},
		hidden: []string{"docs 1 'h'", "docs 1 ''", "team 'a' 'bob'", "team 'h' 'bob'", "team 'c' 'ann'"},
	},
	{
		laws:   []string{"allow docs lt 1 5;mask docs 2 '' not any;allow team eq 2 me;mask team 1 'x' not any", "allow docs lt 1 3;mask docs 2 '' lt 1 -5;allow team in 2 team 2 2;mask team 1 'x' not any"},
		shown:  []string{"docs 1 '?'", "docs 2 '?'", "docs -3 '?'", "team '?' 'ann'"},
		hidden: []string{"docs 7 'ann'", "docs 5 ''", "team '?' 'bob'", "team 'ann' 'root'"},
	},
	{
		laws:   []string{"allow docs in 2 docs 2 2;mask docs 1 0 in 2 team 1 2;allow team not any", "allow docs eq 2 me;mask docs 1 0 not any"},
		shown:  []string{"docs ? 'ann'"},
		hidden: []string{"docs 0 'bob'", "docs ? 'eve'", "team 'bob' 'ann'", "team 'ann' 'bob'"},
	},
}

// hearing is a server with what ann has heard.
type hearing struct {
	t      *testing.T
	server *Server
	heard  []string
}

func (h *hearing) drain(most int) {
	bytes, errno := h.server.Drain(1, most)
	wantErrno(h.t, "Drain", errno, api.OK)
	h.heard = append(h.heard, bytes)
}

// noise is what others do, of which ann must not hear anything.
func (m maker) noise(h *hearing, c hiding, there map[string]int) {
	s := h.server
	switch m.Intn(10) {
	case 0, 1, 2:
		row := strings.ReplaceAll(m.one(c.hidden...), "?", "7")
		if there[row] < 2 {
			there[row]++
			say(h.t, s, 0, "put "+row)
		}
	case 3, 4:
		row := strings.ReplaceAll(m.one(c.hidden...), "?", "7")
		if there[row] > 0 {
			there[row]--
			say(h.t, s, 0, "del "+row)
		}
	case 5:
		say(h.t, s, 0, "law "+m.one(c.laws...))
	case 6:
		say(h.t, s, m.Intn(2)*2, m.one("sub 0 all docs", "sub 1 count - all docs", "end 0", "end 1", "hello", "law x", "put docs 'x' 1", "del docs 99 'x'"))
	case 7:
		// Another session of her own is another one too.
		say(h.t, s, 3, m.one("sub 0 all docs", "sub 1 join 2 2 all docs all docs", "end 0", "end 1", "put docs 1 'ann'"))
	case 8:
		s.Feed(2, m.one("\x00", "\x00\x00", "\x00\x00\x00\x00"))
	default:
		session := 2 + m.Intn(2)
		s.Close(session)
		s.Open(session, []string{"bob", "ann"}[session-2])
		s.Drain(0, m.Intn(20))
	}
}

// step is what ann does, or what changes of what she sees: in the same way whatever others do.
func (m maker) step(h *hearing, c hiding, there map[string]int, secret string) {
	row := m.one(c.shown...)
	view := m.one("all docs", "all team", "count - all docs", "join 2 2 all docs all docs", "sum 1 2 both all docs all docs", "keep eq 1 1 all docs", "count 1 join 2 1 all docs all team")
	put, number := m.Intn(3) > 0, m.one("0", "1", "2", "3")
	switch m.Intn(16) {
	case 0:
		say(h.t, h.server, 1, "sub "+number+" "+view)
	case 1:
		say(h.t, h.server, 1, "end "+number)
	case 2, 3, 4:
		h.drain(m.Intn(12) - 1)
	default:
		if put && there[row] < 3 {
			there[row]++
			say(h.t, h.server, 0, "put "+strings.ReplaceAll(row, "?", secret))
		} else if there[row] > 0 {
			there[row]--
			say(h.t, h.server, 0, "del "+strings.ReplaceAll(row, "?", secret))
		}
	}
}

// heardWith goes through the same steps, with or without noise between them.
func heardWith(t *testing.T, c hiding, seed int64, noisy bool, secret string) []string {
	steps, others := maker{rand.New(rand.NewSource(seed))}, maker{rand.New(rand.NewSource(seed + 1))}
	share, room := steps.Intn(2) == 0, 1+steps.Intn(4)
	h := &hearing{t: t, server: start(t, share, room, "root", "ann", "bob", "ann")}
	shown, hidden := map[string]int{}, map[string]int{}
	say(t, h.server, 0, "law "+c.laws[0])
	say(t, h.server, 1, "sub 0 all docs", "sub 1 count 2 all docs", "sub 2 join 2 1 all docs all team")
	for range 150 {
		for range others.Intn(5) {
			if noisy {
				others.noise(h, c, hidden)
			}
		}
		steps.step(h, c, shown, secret)
	}
	h.drain(1000)
	return h.heard
}

// P14: what one is given is the same whatever happens that they may not see.
func TestNobodyHearsOfWhatIsHidden(t *testing.T) {
	frames := 0
	for i, c := range hidings {
		for _, law := range c.laws {
			wantLaw(t, home, law, api.OK)
		}
		for seed := range int64(60) {
			alone := heardWith(t, c, seed, false, "0")
			for _, secret := range []string{"0", "3"} {
				if beside := heardWith(t, c, seed, true, secret); !slices.Equal(alone, beside) {
					t.Fatalf("%d, %d, %q: ann alone hears\n%q,\nbeside others\n%q", i, seed, secret, alone, beside)
				}
			}
			all := strings.Join(alone, "")
			frames += strings.Count(all, "delta") + strings.Count(all, "reset")
		}
	}
	if frames < 2000 {
		t.Errorf("%d frames are heard only: too few to tell", frames)
	}
}

// Hidden changes use up no room and no numbers, in views of all kinds.
func TestHiddenChangesUseUpNothing(t *testing.T) {
	for view, rows := range map[string]string{
		"all docs":                           "; +1 1 'ann'",
		"keep not eq 1 7 all docs":           "; +1 1 'ann'",
		"pick - all docs":                    "; +1",
		"join 1 1 all docs all docs":         "; +1 1 'ann' 1 'ann'",
		"both all docs all docs":             "; +2 1 'ann'",
		"count - all docs":                   "; +1 1",
		"sum 1 - all docs":                   "; +1 1",
		"count 1,2,1 both all docs all docs": "; +1 1 'ann' 1 2",
	} {
		for _, share := range []bool{true, false} {
			s := start(t, share, 1, "root", "ann", "bob")
			say(t, s, 0, "law allow docs eq 2 me;allow team in 1 team 1 2")
			asks(t, s, 2, "sub 0 "+view, "ok", "snap 0 0")
			say(t, s, 1, "sub 0 "+view)
			for range 5 {
				say(t, s, 0, "put docs 7 'bob'", "put docs 7 'bob'", "put docs 1 'an'", "put team 'x' 'bob'", "del docs 7 'bob'", "del docs 1 'an'", "del docs 5 'ann'")
				say(t, s, 0, "law allow docs eq 2 me", "law allow docs eq 2 me;mask docs 1 0 eq 2 me;allow team in 1 team 1 2")
			}
			hears(t, s, 1, "ok", "snap 0 0")
			say(t, s, 0, "put docs 1 'ann'")
			hears(t, s, 1, "delta 0 1"+rows)
		}
	}
}
