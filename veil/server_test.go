package veil

import (
	"math"
	"strings"
	"testing"

	"veil/api"
)

// start makes a server of the home schema, with a session for each of these, from 0 on.
func start(t testing.TB, share bool, room int, names ...string) *Server {
	t.Helper()
	s, errno := New(home, share, room)
	if s == nil || errno != api.OK {
		t.Fatalf("New = %v, %d", s, errno)
	}
	for i, who := range names {
		wantErrno(t, "Open", s.Open(i, who), api.OK)
	}
	return s
}

func wantErrno(t testing.TB, call string, got, want api.Errno) {
	t.Helper()
	if got != want {
		t.Errorf("%s = %d, want %d", call, got, want)
	}
}

// say sends requests of a session, each as a frame.
func say(t testing.TB, s *Server, session int, requests ...string) {
	t.Helper()
	for _, request := range requests {
		wantErrno(t, "Feed of "+request, s.Feed(session, Pack(request)), api.OK)
	}
}

// wantDrained wants the first most frames of a session to be of these payloads.
func wantDrained(t testing.TB, s *Server, session, most int, payloads ...string) {
	t.Helper()
	want := ""
	for _, payload := range payloads {
		want += framed(payload)
	}
	if got, errno := s.Drain(session, most); got != want || errno != api.OK {
		t.Errorf("session %d: %q, %d, want %q", session, got, errno, want)
	}
}

// hears wants all frames of a session to be of these payloads.
func hears(t testing.TB, s *Server, session int, payloads ...string) {
	t.Helper()
	wantDrained(t, s, session, math.MaxInt, payloads...)
}

// asks wants a request of a session to be answered so, and then all these frames.
func asks(t testing.TB, s *Server, session int, request string, payloads ...string) {
	t.Helper()
	say(t, s, session, request)
	hears(t, s, session, payloads...)
}

func TestNewRefuses(t *testing.T) {
	for _, room := range []int{math.MinInt, -1, 0, 9, 10, math.MaxInt} {
		for _, share := range []bool{true, false} {
			if s, errno := New(home, share, room); s != nil || errno != api.ErrRoom {
				t.Errorf("New with room %d = %v, %d", room, s, errno)
			}
			for _, schema := range badSchemas {
				if s, errno := New(schema, share, room); s != nil || errno != api.ErrSchema {
					t.Errorf("New(%.40q) with room %d = %v, %d", schema, room, s, errno)
				}
			}
		}
	}
	for _, schema := range badSchemas {
		if s, errno := New(schema, true, 1); s != nil || errno != api.ErrSchema {
			t.Errorf("New(%.40q) = %v, %d", schema, s, errno)
		}
	}
}

func TestNew(t *testing.T) {
	for _, schema := range []string{home, wide, "docs int text;t int"} {
		for room := 1; room <= 8; room++ {
			for _, share := range []bool{true, false} {
				s, errno := New(schema, share, room)
				if s == nil || errno != api.OK {
					t.Fatalf("New(%q) with room %d = %v, %d", schema, room, s, errno)
				}
			}
		}
	}
}

func TestANewServerHasNothing(t *testing.T) {
	s := start(t, true, 1)
	for i := range api.MaxSessions {
		wantErrno(t, "Close", s.Close(i), api.ErrSession)
	}
	wantErrno(t, "Open", s.Open(0, "root"), api.OK)
	wantErrno(t, "Open", s.Open(7, "ann"), api.OK)
	asks(t, s, 0, "sub 0 both pick 2 all docs pick 1 all team", "ok", "snap 0 0")
	asks(t, s, 7, "sub 0 all docs", "ok", "snap 0 0")
	say(t, s, 0, "put docs 1 'ann'", "put team 'ann' 'ann'")
	hears(t, s, 7)
}

func TestNumbersThatAreNoSession(t *testing.T) {
	s := start(t, true, 8, "root", "ann", "bob", "a", "b", "c", "d", "e")
	for _, i := range []int{math.MinInt, -1, 8, 9, 1 << 32, math.MaxInt} {
		for _, who := range []string{"ann", "", "Ann"} {
			wantErrno(t, "Open", s.Open(i, who), api.ErrSession)
		}
		wantErrno(t, "Close", s.Close(i), api.ErrSession)
		wantErrno(t, "Feed", s.Feed(i, Pack("hello")), api.ErrSession)
		if got, errno := s.Drain(i, 5); got != "" || errno != api.ErrSession {
			t.Errorf("Drain(%d) = %q, %d", i, got, errno)
		}
	}
	for i := range api.MaxSessions {
		hears(t, s, i)
	}
}

func TestOpenRefuses(t *testing.T) {
	s := start(t, true, 8, "root")
	for _, who := range []string{"", "Ann", "abcdefghi", "a b", " a", "a1", "_", "'a'", "\xff", "ä", "a\x00", strings.Repeat("a", 1<<20)} {
		wantErrno(t, "Open for no name", s.Open(1, who), api.ErrName)
		wantErrno(t, "Open of an open one", s.Open(0, who), api.ErrSession)
		wantErrno(t, "Feed of one that did not open", s.Feed(1, ""), api.ErrSession)
	}
	for _, who := range []string{"a", "z", "root", "me", "abcdefgh"} {
		wantErrno(t, "Open of an open one", s.Open(0, who), api.ErrSession)
		wantErrno(t, "Open for "+who, s.Open(1, who), api.OK)
		wantErrno(t, "Open twice", s.Open(1, who), api.ErrSession)
		wantErrno(t, "Close", s.Close(1), api.OK)
	}
}

func TestClose(t *testing.T) {
	s := start(t, true, 8, "root", "root")
	say(t, s, 1, "sub 0 all docs", "sub 3 all docs")
	s.Feed(1, Pack("put docs 1 'a'")[:9])
	wantErrno(t, "Close", s.Close(1), api.OK)
	wantErrno(t, "Close twice", s.Close(1), api.ErrSession)
	wantErrno(t, "Feed of a closed one", s.Feed(1, Pack("put docs 5 'a'")), api.ErrSession)
	if got, errno := s.Drain(1, 5); got != "" || errno != api.ErrSession {
		t.Errorf("Drain of a closed one = %q, %d", got, errno)
	}
	say(t, s, 0, "put docs 2 'b'")
	wantErrno(t, "Open again", s.Open(1, "root"), api.OK)
	hears(t, s, 1)
	s.Feed(1, Pack("put docs 1 'a'")[9:])
	hears(t, s, 1, "bye")
	wantErrno(t, "Close", s.Close(1), api.OK)
	wantErrno(t, "Open again", s.Open(1, "ann"), api.OK)
	asks(t, s, 1, "end 0", "no 10")
	asks(t, s, 1, "put docs 1 'a'", "no 8")
	asks(t, s, 1, "sub 0 all docs", "ok", "snap 0 0")
	asks(t, s, 0, "sub 0 all docs", "ok", "ok", "snap 0 0; +1 2 'b'")
}

// conversation is frames of many sizes.
func conversation() (string, []string) {
	bytes, answers := "", []string{}
	for _, c := range [][]string{
		{"sub 0 all docs", "ok", "snap 0 0"},
		{"x", "no 7"},
		{"put docs 1 'a'", "ok", "delta 0 1; +1 1 'a'"},
		{strings.Repeat("x", api.MaxFrame), "no 7"},
		{"sub 1 " + strings.Repeat("keep any ", 29) + "all docs", "ok", "snap 1 0; +1 1 'a'"},
		{"\x00\x00\x00\x00", "no 7"},
		{"del docs 1 'a'", "ok", "delta 0 2; -1 1 'a'", "delta 1 1; -1 1 'a'"},
	} {
		bytes += framed(c[0])
		answers = append(answers, c[1:]...)
	}
	return bytes, answers
}

func TestFeedInPieces(t *testing.T) {
	bytes, answers := conversation()
	for _, size := range []int{1, 2, 3, 4, 5, 7, 8, 9, 13, 100, 999, 1000, 1007, 1008, 1009, len(bytes) - 1, len(bytes)} {
		s := start(t, true, 8, "root")
		for rest := bytes; rest != ""; {
			piece := rest[:min(size, len(rest))]
			wantErrno(t, "Feed", s.Feed(0, piece), api.OK)
			wantErrno(t, "Feed of nothing", s.Feed(0, ""), api.OK)
			rest = rest[len(piece):]
		}
		hears(t, s, 0, answers...)
	}
}

// A request is done as soon as its last byte is there, not earlier.
func TestFeedDoesARequestAtOnce(t *testing.T) {
	s := start(t, true, 8, "root")
	frame := Pack("hello")
	for i := range len(frame) {
		hears(t, s, 0)
		s.Feed(0, frame[i:i+1])
	}
	hears(t, s, 0, "no 7")
	s.Feed(0, frame+frame+frame[:3])
	hears(t, s, 0, "no 7", "no 7")
	s.Feed(0, frame[3:]+frame)
	hears(t, s, 0, "no 7", "no 7")
}

// Bytes of one session do not come in between those of another.
func TestFeedOfSeveralSessions(t *testing.T) {
	s := start(t, true, 8, "root", "root")
	a, b := Pack("put docs 1 'a'"), Pack("del docs 1 'b'")
	for i := range len(a) {
		s.Feed(0, a[i:i+1])
		s.Feed(1, b[i:i+1])
	}
	hears(t, s, 0, "ok")
	hears(t, s, 1, "no 10")
}

// brokenBytes are bytes that are broken behind frames that are not, and the answers to these.
var brokenBytes = []struct {
	bytes   string
	answers []string
}{
	{"\x00\x00\x00\x00", nil},
	{"\x00\x00\x03\xe9", nil},
	{"\xff\xff\xff\xff", nil},
	{"hello", nil},
	{"\x00\x00\x00\x01x\x00\x00\x00\x00", nil},
	{framed(""), nil},
	{framed(strings.Repeat("x", api.MaxFrame+1)), nil},
	{turned(framed("put docs 7 'a'"), 8, 0), nil},
	{turned(framed("put docs 7 'a'"), 21, 7), nil},
	{framed("x") + framed("put team '' ''") + "\x00\x00\x00\x00", []string{"no 7", "ok"}},
	{framed("x") + framed("end 2") + framed("") + framed("put docs 7 'a'"), []string{"no 7", "no 10"}},
}

func TestBrokenBytes(t *testing.T) {
	for _, c := range brokenBytes {
		for _, share := range []bool{true, false} {
			s := start(t, share, 8, "root", "root")
			say(t, s, 0, "sub 0 all docs", "put docs 1 'a'", "sub 3 count - all docs")
			wantErrno(t, "Feed of broken bytes", s.Feed(0, c.bytes), api.OK)
			want := append([]string{"ok", "ok", "ok"}, c.answers...)
			hears(t, s, 0, append(want, "bye")...)
			for _, bytes := range []string{"", "x", framed("put docs 2 'a'"), framed("sub 0 all docs"), c.bytes} {
				wantErrno(t, "Feed of one broken off", s.Feed(0, bytes), api.OK)
			}
			asks(t, s, 1, "sub 1 all docs", "ok", "snap 1 0; +1 1 'a'")
			asks(t, s, 1, "put docs 3 'a'", "ok", "delta 1 1; +1 3 'a'")
			hears(t, s, 0)
			wantErrno(t, "Open of one broken off", s.Open(0, "root"), api.ErrSession)
			wantErrno(t, "Close of one broken off", s.Close(0), api.OK)
			wantErrno(t, "Open again", s.Open(0, "root"), api.OK)
			asks(t, s, 0, "sub 0 pick 1 all docs", "ok", "snap 0 0; +1 1; +1 3")
		}
	}
}

// Bytes may turn out to be broken only when more come.
func TestBytesThatBreakLater(t *testing.T) {
	for _, c := range brokenBytes {
		s := start(t, true, 8, "root")
		for i := range len(c.bytes) {
			wantErrno(t, "Feed", s.Feed(0, c.bytes[i:i+1]), api.OK)
		}
		hears(t, s, 0, append(append([]string{}, c.answers...), "bye")...)
	}
	s := start(t, true, 8, "root")
	s.Feed(0, "\x00\x00\x00\x01x\x00\x00\x00")
	hears(t, s, 0)
	s.Feed(0, "\x00"+framed("hello"))
	hears(t, s, 0, "bye")
}

// The frame bye is the session's own: what else was put out stands ahead of it, and most counts it.
func TestByeIsAFrame(t *testing.T) {
	s := start(t, true, 8, "ann")
	say(t, s, 0, "a", "b")
	s.Feed(0, framed(""))
	wantDrained(t, s, 0, 2, "no 7", "no 7")
	wantDrained(t, s, 0, 2, "bye")
	wantDrained(t, s, 0, 2)
}

func TestDrain(t *testing.T) {
	s := start(t, true, 8, "root", "ann")
	say(t, s, 0, "sub 2 all docs", "put docs 1 'a'", "x", "sub 1 all docs", "put docs 1 'a'")
	for _, most := range []int{0, -1, math.MinInt} {
		wantDrained(t, s, 0, most)
	}
	wantDrained(t, s, 0, 1, "ok")
	wantDrained(t, s, 0, 3, "snap 2 0", "ok", "delta 2 1; +1 1 'a'")
	wantDrained(t, s, 0, 0)
	say(t, s, 0, "hello")
	wantDrained(t, s, 0, 2, "no 7", "ok")
	wantDrained(t, s, 0, 6, "snap 1 0; +1 1 'a'", "ok", "delta 1 1; +1 1 'a'", "delta 2 2; +1 1 'a'", "no 7")
	wantDrained(t, s, 0, math.MaxInt)
	hears(t, s, 1)
}

// A queue that grows and shrinks keeps its order.
func TestDrainOneByOne(t *testing.T) {
	s := start(t, true, 8, "root")
	say(t, s, 0, "sub 0 count - all docs")
	wantDrained(t, s, 0, 1, "ok")
	wantDrained(t, s, 0, 1, "snap 0 0")
	for range 100 {
		say(t, s, 0, "put docs 1 'a'", "x", "del docs 1 'a'")
		wantDrained(t, s, 0, 1, "ok")
		if got, _ := s.Drain(0, 1); !strings.HasSuffix(got[:len(got)-4], "; +1 1") {
			t.Errorf("%q", got)
		}
		wantDrained(t, s, 0, 2, "no 7", "ok")
		if got, _ := s.Drain(0, 1); !strings.HasSuffix(got[:len(got)-4], "; -1 1") {
			t.Errorf("%q", got)
		}
		wantDrained(t, s, 0, 1)
	}
}
