package veil

import (
	"strconv"
	"strings"
	"testing"

	"veil/api"
)

// seenRows are in the tables when it is told what one sees.
var seenRows = []string{
	"put docs 3 'x'", "put team 'x' 'ann'", "put docs 1 'ann'", "put docs 2 'bob'", "put team 'y' 'bob'",
	"put docs 3 'x'", "put team 'ann' 'bob'", "put docs -4 'y'", "put team 'bob' 'bob'",
}

const (
	allDocs = "; +1 -4 'y'; +1 1 'ann'; +1 2 'bob'; +2 3 'x'"
	allTeam = "; +1 'ann' 'bob'; +1 'bob' 'bob'; +1 'x' 'ann'; +1 'y' 'bob'"
)

// seenDocs is what ann and bob see of the docs by some rules.
var seenDocs = []struct{ law, ann, bob string }{
	{"", "", ""},
	{"allow team any", "", ""},

	{"allow docs any", allDocs, allDocs},
	{"allow docs not any", "", ""},
	{"allow docs eq 1 3", "; +2 3 'x'", "; +2 3 'x'"},
	{"allow docs eq 1 4", "", ""},
	{"allow docs eq 2 'y'", "; +1 -4 'y'", "; +1 -4 'y'"},
	{"allow docs eq 2 me", "; +1 1 'ann'", "; +1 2 'bob'"},
	{"allow docs lt 1 2", "; +1 -4 'y'; +1 1 'ann'", "; +1 -4 'y'; +1 1 'ann'"},
	{"allow docs same 1 1", allDocs, allDocs},
	{"allow docs not eq 2 me", "; +1 -4 'y'; +1 2 'bob'; +2 3 'x'", "; +1 -4 'y'; +1 1 'ann'; +2 3 'x'"},
	{"allow docs and lt 1 3 not eq 2 me", "; +1 -4 'y'; +1 2 'bob'", "; +1 -4 'y'; +1 1 'ann'"},
	{"allow docs or eq 2 me lt 1 0", "; +1 -4 'y'; +1 1 'ann'", "; +1 -4 'y'; +1 2 'bob'"},
	{"allow docs in 2 team 1 2", "; +2 3 'x'", "; +1 -4 'y'; +1 1 'ann'; +1 2 'bob'"},
	{"allow docs in 2 team 2 1", "; +1 2 'bob'", "; +1 2 'bob'"},
	{"allow docs in 2 team 2 2", "; +1 1 'ann'", "; +1 2 'bob'"},
	{"allow docs in 2 team 1 1", "; +1 1 'ann'", "; +1 2 'bob'"},
	{"allow docs in 2 docs 2 2", "; +1 1 'ann'", "; +1 2 'bob'"},
	{"allow docs in 1 docs 1 2", "; +1 1 'ann'", "; +1 2 'bob'"},
	{"allow docs not in 2 team 1 2", "; +1 -4 'y'; +1 1 'ann'; +1 2 'bob'", "; +2 3 'x'"},
	{"allow docs and in 2 team 1 2 in 2 team 2 2", "", "; +1 2 'bob'"},
	{"allow docs or in 2 team 1 2 in 2 docs 2 2", "; +1 1 'ann'; +2 3 'x'", "; +1 -4 'y'; +1 1 'ann'; +1 2 'bob'"},

	// One allow is enough, and two show a row no more often.
	{"allow docs eq 2 me;allow docs lt 1 0;allow docs in 2 team 1 2", "; +1 -4 'y'; +1 1 'ann'; +2 3 'x'", "; +1 -4 'y'; +1 1 'ann'; +1 2 'bob'"},
	{"allow docs any;allow docs not any;allow docs any", allDocs, allDocs},
	{"allow team any;allow docs eq 1 3;mask team 1 '' not any", "; +2 3 'x'", "; +2 3 'x'"},

	{"mask docs 1 0 any", "", ""},
	{"mask docs 1 0 not any", "", ""},
	{"allow docs any;mask docs 1 0 any", allDocs, allDocs},
	{"allow docs any;mask docs 1 0 not any", "; +1 0 'ann'; +1 0 'bob'; +2 0 'x'; +1 0 'y'", "; +1 0 'ann'; +1 0 'bob'; +2 0 'x'; +1 0 'y'"},
	{"mask docs 2 '' eq 2 me;allow docs any", "; +1 -4 ''; +1 1 'ann'; +1 2 ''; +2 3 ''", "; +1 -4 ''; +1 1 ''; +1 2 'bob'; +2 3 ''"},
	{"mask docs 1 7 lt 1 2;allow docs any;mask docs 2 'z' eq 2 'y'", "; +1 -4 'y'; +1 1 'z'; +3 7 'z'", "; +1 -4 'y'; +1 1 'z'; +3 7 'z'"},
	{"allow docs any;mask docs 1 9 in 2 team 1 2", "; +2 3 'x'; +1 9 'ann'; +1 9 'bob'; +1 9 'y'", "; +1 -4 'y'; +1 1 'ann'; +1 2 'bob'; +2 9 'x'"},
	{"allow docs any;mask docs 2 'ann' same 1 1", allDocs, allDocs},
	{"allow docs lt 1 2;mask docs 1 1000000000000000 lt 1 1;mask docs 2 'abcdefghijkl' lt 1 1", "; +1 -4 'y'; +1 1000000000000000 'abcdefghijkl'", "; +1 -4 'y'; +1 1000000000000000 'abcdefghijkl'"},

	// Conditions look at the row as it is, whatever masks lay on it.
	{"mask docs 2 'z' not any;allow docs eq 2 me", "; +1 1 'z'", "; +1 2 'z'"},
	{"mask docs 2 'ann' not any;allow docs eq 2 me", "; +1 1 'ann'", "; +1 2 'ann'"},
	{"allow docs any;mask docs 1 3 eq 1 3;mask docs 2 'q' not eq 1 3", "; +1 3 'ann'; +1 3 'bob'; +2 3 'q'; +1 3 'y'", "; +1 3 'ann'; +1 3 'bob'; +2 3 'q'; +1 3 'y'"},
	{"allow docs any;mask docs 2 'x' eq 1 3;mask docs 1 0 in 2 team 1 2", "; +3 0 'x'; +2 3 'x'", "; +1 -4 'x'; +2 0 'x'; +1 1 'x'; +1 2 'x'"},
	// And so they do at tables that they look at: what is masked there is found.
	{"allow docs in 2 team 1 2;mask team 1 'q' not any;mask team 2 'q' not any", "; +2 3 'x'", "; +1 -4 'y'; +1 1 'ann'; +1 2 'bob'"},
	{"allow docs in 2 docs 2 2;mask docs 2 'q' not any", "; +1 1 'q'", "; +1 2 'q'"},
}

// lawOf is the request for rules.
func lawOf(rules string) string { return strings.TrimSuffix("law "+rules, " ") }

func TestRules(t *testing.T) {
	for i, c := range seenDocs {
		share := i%2 == 0
		// The rules are there, then the rows, then the view.
		s := start(t, share, 8, "root", "ann", "bob")
		say(t, s, 0, lawOf(c.law))
		say(t, s, 0, seenRows...)
		asks(t, s, 1, "sub 0 all docs", "ok", "snap 0 0"+c.ann)
		asks(t, s, 2, "sub 3 all docs", "ok", "snap 3 0"+c.bob)
		// The view is there, then the rows, then the rules.
		s = start(t, share, 8, "root", "ann", "bob")
		asks(t, s, 1, "sub 0 all docs", "ok", "snap 0 0")
		asks(t, s, 2, "sub 3 all docs", "ok", "snap 3 0")
		say(t, s, 0, seenRows...)
		say(t, s, 0, lawOf(c.law))
		hearsChange(t, s, 1, "delta 0 1", c.ann)
		hearsChange(t, s, 2, "delta 3 1", c.bob)
		// The rules are there, then the view, then the rows: they are told bit by bit, and at last all at once.
		s = start(t, share, 1, "root", "ann", "bob")
		say(t, s, 0, lawOf(c.law))
		say(t, s, 1, "sub 0 all docs")
		say(t, s, 2, "sub 3 all docs")
		say(t, s, 0, seenRows...)
		wantRows(t, s, 1, c.law, c.ann)
		wantRows(t, s, 2, c.law, c.bob)
	}
}

// hearsChange wants a frame with these rows, or none if there are none.
func hearsChange(t *testing.T, s *Server, session int, head, rows string) {
	t.Helper()
	if rows == "" {
		hears(t, s, session)
		return
	}
	hears(t, s, session, head+rows)
}

// wantRows wants the last frame of a session that waits to tell these rows, behind its two numbers.
func wantRows(t *testing.T, s *Server, session int, law, rows string) {
	t.Helper()
	bytes, _ := s.Drain(session, 100)
	payloads, _, _ := Unpack(bytes)
	_, got, _ := strings.Cut(payloads[len(payloads)-1], ";")
	if got != strings.TrimPrefix(rows, ";") {
		t.Errorf("%q, session %d: %q, want %q", law, session, payloads, rows)
	}
}

// From any rules to any other ones: one is told where what they see is another, and nothing where it is the same.
func TestRulesInPlaceOfRules(t *testing.T) {
	s := start(t, true, 1, "root", "ann", "bob")
	say(t, s, 0, seenRows...)
	say(t, s, 1, "sub 0 all docs")
	say(t, s, 2, "sub 0 all docs")
	for _, before := range seenDocs {
		for _, c := range seenDocs {
			say(t, s, 0, lawOf(before.law))
			s.Drain(1, 100)
			s.Drain(2, 100)
			say(t, s, 0, lawOf(c.law))
			for session, rows := range map[int][2]string{1: {before.ann, c.ann}, 2: {before.bob, c.bob}} {
				got, _ := s.Drain(session, 100)
				if (got == "") != (rows[0] == rows[1]) {
					t.Errorf("%q, then %q: session %d hears %q", before.law, c.law, session, got)
				}
				asks(t, s, session, "sub 1 all docs", "ok", "snap 1 0"+rows[1])
				asks(t, s, session, "end 1", "ok")
			}
		}
	}
}

// Root sees all of every table as it is, whatever the rules, and is told nothing when they change.
func TestRootSeesAll(t *testing.T) {
	for i, c := range seenDocs {
		s := start(t, i%2 == 0, 8, "ann", "root", "root")
		asks(t, s, 1, lawOf(c.law), "ok")
		say(t, s, 1, seenRows...)
		s.Drain(1, 100)
		asks(t, s, 1, "sub 0 all docs", "ok", "snap 0 0"+allDocs)
		asks(t, s, 2, "sub 1 all team", "ok", "snap 1 0"+allTeam)
		asks(t, s, 2, "sub 2 count - join 2 1 all docs all team", "ok", "snap 2 0; +1 5")
		for _, law := range []string{"law", "law allow docs any;mask docs 1 0 not any", "law allow docs eq 2 me", lawOf(c.law)} {
			asks(t, s, 1, law, "ok")
			hears(t, s, 2)
		}
	}
}

// Others than root are denied whatever the rules are; a law that is refused changes nothing.
func TestLawsAreTakenOrRefused(t *testing.T) {
	const first = "allow docs eq 2 'x'"
	for request, answer := range map[string]string{
		"law":                        "ok",
		"law " + first:               "ok",
		"law allow team any":         "ok",
		"law " + first + ";" + first: "ok",
		"law allow docs in 2 team 1 2;mask docs 1 0 eq 2 me":                             "ok",
		"law " + rules("allow docs any", 20):                                             "ok",
		"law mask docs 1 0 any;mask docs 2 '' any;mask team 1 '' any;mask team 2 '' any": "ok",

		"law ":                                   "no 4",
		"law  ":                                  "no 4",
		"law ;":                                  "no 4",
		"law law":                                "no 4",
		"law any":                                "no 4",
		"law allow":                              "no 4",
		"law allow docs":                         "no 4",
		"law allow docs any;":                    "no 4",
		"law ;allow docs any":                    "no 4",
		"law allow docs any ":                    "no 4",
		"law  allow docs any":                    "no 4",
		"law allow docs any; allow docs any":     "no 4",
		"law allow x any":                        "no 4",
		"law allow docs eq 1 me":                 "no 4",
		"law allow docs in 1 team 1 2":           "no 4",
		"law allow docs any;allow docs all docs": "no 4",
		"law mask docs 1 'x' any":                "no 4",
		"law mask docs 2 me any":                 "no 4",
		"law mask docs 1 0 any;mask docs 1 1 any":                    "no 4",
		"law mask docs 2 '' any;allow docs any;mask docs 2 '' any":   "no 4",
		"law " + rules("allow docs any", 21):                         "no 4",
		"law " + rules("allow docs any", 19) + ";allow docs not any": "no 4",
		"law allow docs any\x00":                                     "no 4",

		"laws":                "no 7",
		"Law":                 "no 7",
		" law":                "no 7",
		"law;allow docs any":  "no 7",
		"law\tallow docs any": "no 7",
		"allow docs any":      "no 7",
	} {
		s := start(t, true, 8, "root", "ann", "roo", "rooot")
		say(t, s, 0, "put docs 1 'x'", lawOf(first))
		hears(t, s, 0, "ok", "ok")
		asks(t, s, 1, "sub 0 all docs", "ok", "snap 0 0; +1 1 'x'")
		denied := "no 8"
		if answer == "no 7" {
			denied = "no 7"
		}
		for session := 1; session <= 3; session++ {
			asks(t, s, session, request, denied)
		}
		asks(t, s, 0, request, answer)
		if answer != "ok" {
			// Those that were there hold on.
			hears(t, s, 1)
			asks(t, s, 0, "put docs 2 'x'", "ok")
			asks(t, s, 0, "put docs 2 'y'", "ok")
			hears(t, s, 1, "delta 0 1; +1 2 'x'")
		}
	}
}

// script is requests of root, with what ann is told behind each, numbers and all.
type script []struct {
	request string
	told    []string
}

func (c script) run(t *testing.T, s *Server, ann int) {
	t.Helper()
	for i, line := range c {
		say(t, s, 0, line.request)
		bytes, _ := s.Drain(ann, 1000)
		want := ""
		for _, payload := range line.told {
			want += framed(payload)
		}
		if bytes != want {
			t.Errorf("line %d, %q: %q, want %q", i, line.request, bytes, want)
		}
	}
}

// A table that rules look at, another one than the one that is seen.
func TestTablesThatRulesLookAt(t *testing.T) {
	for _, share := range []bool{true, false} {
		s := start(t, share, 8, "root", "ann")
		say(t, s, 1, "sub 0 all docs", "sub 1 count 1 all docs", "sub 2 all team")
		s.Drain(1, 100)
		script{
			{"law allow docs in 2 team 1 2;mask docs 1 0 not in 2 team 2 1", nil},
			{"put docs 1 'x'", nil},
			{"put docs 2 'x'", nil},
			{"put docs 1 'y'", nil},
			{"put team 'x' 'bob'", nil},
			{"put team 'z' 'ann'", nil},
			{"put team 'x' 'ann'", []string{"delta 0 1; +1 1 'x'; +1 2 'x'", "delta 1 1; +1 1 1; +1 2 1"}},
			{"put team 'x' 'ann'", nil},
			{"del team 'x' 'bob'", nil},
			{"del team 'x' 'ann'", nil},
			{"put docs 3 'z'", []string{"delta 0 2; +1 3 'z'", "delta 1 2; +1 3 1"}},
			{"put team 'ann' 'z'", []string{"delta 0 3; +1 0 'z'; -1 3 'z'", "delta 1 3; +1 0 1; -1 3 1"}},
			{"put team 'ann' 'x'", []string{"delta 0 4; +2 0 'x'; -1 1 'x'; -1 2 'x'", "delta 1 4; -1 0 1; +1 0 3; -1 1 1; -1 2 1"}},
			{"del docs 2 'x'", []string{"delta 0 5; -1 0 'x'", "delta 1 5; +1 0 2; -1 0 3"}},
			{"del team 'x' 'ann'", []string{"delta 0 6; -1 0 'x'", "delta 1 6; +1 0 1; -1 0 2"}},
			{"del docs 1 'x'", nil},
			{"del team 'z' 'ann'", []string{"delta 0 7; -1 0 'z'", "delta 1 7; -1 0 1"}},
		}.run(t, s, 1)
	}
}

// A table that rules look at itself: one row can show others, or hide itself.
func TestTablesThatRulesLookAtThemselves(t *testing.T) {
	for _, share := range []bool{true, false} {
		s := start(t, share, 8, "root", "ann")
		say(t, s, 1, "sub 0 all team", "sub 1 join 1 1 all team all team")
		s.Drain(1, 100)
		script{
			// Who is in a group sees all of it.
			{"law allow team in 1 team 1 2", nil},
			{"put team 'x' 'bob'", nil},
			{"put team 'x' 'eve'", nil},
			{"put team 'y' 'eve'", nil},
			{"put team 'x' 'ann'", []string{"delta 0 1; +1 'x' 'ann'; +1 'x' 'bob'; +1 'x' 'eve'", "delta 1 1; +1 'x' 'ann' 'x' 'ann'; +1 'x' 'ann' 'x' 'bob'; +1 'x' 'ann' 'x' 'eve'; +1 'x' 'bob' 'x' 'ann'; +1 'x' 'bob' 'x' 'bob'; +1 'x' 'bob' 'x' 'eve'; +1 'x' 'eve' 'x' 'ann'; +1 'x' 'eve' 'x' 'bob'; +1 'x' 'eve' 'x' 'eve'"}},
			{"del team 'x' 'eve'", []string{"delta 0 2; -1 'x' 'eve'", "delta 1 2; -1 'x' 'ann' 'x' 'eve'; -1 'x' 'bob' 'x' 'eve'; -1 'x' 'eve' 'x' 'ann'; -1 'x' 'eve' 'x' 'bob'; -1 'x' 'eve' 'x' 'eve'"}},
			{"put team 'x' 'ann'", []string{"delta 0 3; +1 'x' 'ann'", "delta 1 3; +3 'x' 'ann' 'x' 'ann'; +1 'x' 'ann' 'x' 'bob'; +1 'x' 'bob' 'x' 'ann'"}},
			{"del team 'x' 'ann'", []string{"delta 0 4; -1 'x' 'ann'", "delta 1 4; -3 'x' 'ann' 'x' 'ann'; -1 'x' 'ann' 'x' 'bob'; -1 'x' 'bob' 'x' 'ann'"}},
			{"del team 'x' 'ann'", []string{"delta 0 5; -1 'x' 'ann'; -1 'x' 'bob'", "delta 1 5; -1 'x' 'ann' 'x' 'ann'; -1 'x' 'ann' 'x' 'bob'; -1 'x' 'bob' 'x' 'ann'; -1 'x' 'bob' 'x' 'bob'"}},
			// Who is in a group does not see it.
			{"law allow team not in 1 team 1 2", []string{"delta 0 6; +1 'x' 'bob'; +1 'y' 'eve'", "delta 1 6; +1 'x' 'bob' 'x' 'bob'; +1 'y' 'eve' 'y' 'eve'"}},
			{"put team 'x' 'ann'", []string{"delta 0 7; -1 'x' 'bob'", "delta 1 7; -1 'x' 'bob' 'x' 'bob'"}},
			{"put team 'z' 'ann'", nil},
			{"del team 'x' 'ann'", []string{"delta 0 8; +1 'x' 'bob'", "delta 1 8; +1 'x' 'bob' 'x' 'bob'"}},
			// What one row changes of another one and what it is itself come to nothing.
			{"law allow team not in 1 team 1 2;mask team 1 'x' not any;mask team 2 'eve' not any", []string{"delta 0 9; -1 'x' 'bob'; +2 'x' 'eve'; -1 'y' 'eve'", "delta 1 9; -1 'x' 'bob' 'x' 'bob'; +4 'x' 'eve' 'x' 'eve'; -1 'y' 'eve' 'y' 'eve'"}},
			{"law allow team and in 1 team 1 2 eq 2 me;allow team and not in 1 team 1 2 eq 2 'eve';mask team 1 '' not any;mask team 2 '' not any", []string{"delta 0 10; +2 '' ''; -2 'x' 'eve'", "delta 1 10; +4 '' '' '' ''; -4 'x' 'eve' 'x' 'eve'"}},
			{"put team 'y' 'ann'", nil},
			{"del team 'y' 'ann'", nil},
		}.run(t, s, 1)
	}
}

// Several looks of one rule, at the same table and at others, that differ in one thing each.
func TestSeveralLooks(t *testing.T) {
	for _, share := range []bool{true, false} {
		s := start(t, share, 8, "root", "ann")
		say(t, s, 1, "sub 0 all team")
		s.Drain(1, 100)
		script{
			// They differ in the row's column.
			{"law allow team or in 1 team 1 2 in 2 team 1 2", nil},
			{"put team 'x' 'y'", nil},
			{"put team 'y' 'z'", nil},
			{"put team 'y' 'ann'", []string{"delta 0 1; +1 'x' 'y'; +1 'y' 'ann'; +1 'y' 'z'"}},
			{"del team 'y' 'ann'", []string{"delta 0 2; -1 'x' 'y'; -1 'y' 'ann'; -1 'y' 'z'"}},
			// In the column that has the name.
			{"law allow team or in 1 team 1 2 in 1 team 1 1", nil},
			{"put team 'ann' 'w'", []string{"delta 0 3; +1 'ann' 'w'"}},
			{"put team 'x' 'ann'", []string{"delta 0 4; +1 'x' 'ann'; +1 'x' 'y'"}},
			{"law allow team and in 1 team 1 2 not in 1 team 1 1", []string{"delta 0 5; -1 'ann' 'w'"}},
			{"put team 'ann' 'ann'", nil},
			{"del team 'x' 'ann'", []string{"delta 0 6; -1 'x' 'ann'; -1 'x' 'y'"}},
			{"del team 'ann' 'ann'", nil},
			// In the column that has what the row has.
			{"law allow team or in 2 team 1 1 in 2 team 2 1", []string{"delta 0 7; +1 'ann' 'w'"}},
			{"put team 'w' 'ann'", []string{"delta 0 8; +1 'w' 'ann'"}},
			{"put team 'v' 'w'", []string{"delta 0 9; +1 'v' 'w'"}},
			{"del team 'ann' 'w'", []string{"delta 0 10; -1 'ann' 'w'; -1 'v' 'w'; -1 'w' 'ann'"}},
			// In the table.
			{"law allow team or in 2 team 2 2 in 2 docs 2 2", []string{"delta 0 11; +1 'w' 'ann'"}},
			{"put docs 1 'ann'", nil},
			{"law allow team in 2 docs 2 2;mask team 1 '' in 2 team 2 1", []string{"delta 0 12; +1 '' 'ann'; -1 'w' 'ann'"}},
			{"del docs 1 'ann'", []string{"delta 0 13; -1 '' 'ann'"}},
			{"put team 'ann' 'ann'", nil},
			{"put docs 2 'ann'", []string{"delta 0 14; +1 'ann' 'ann'; +1 'w' 'ann'"}},
		}.run(t, s, 1)
	}
}

// Where room is used up what rules change is told as a reset.
func TestResetsByRules(t *testing.T) {
	s := start(t, true, 2, "root", "ann")
	say(t, s, 0, "put docs 1 'x'", "put docs 2 'y'", "put team 'x' 'ann'")
	say(t, s, 1, "sub 0 all docs", "sub 1 all team")
	say(t, s, 0, "law allow docs in 2 team 1 2", "law allow docs any", "law allow docs any;allow docs eq 1 1")
	hears(t, s, 1, "ok", "ok", "snap 1 0", "reset 0 2; +1 1 'x'; +1 2 'y'")
	say(t, s, 0, "law allow docs in 2 team 1 2", "put team 'y' 'ann'", "del team 'x' 'ann'")
	hears(t, s, 1, "reset 0 5; +1 2 'y'")
	say(t, s, 0, "law", "law allow docs in 2 team 1 2")
	hears(t, s, 1, "delta 0 6; -1 2 'y'", "delta 0 7; +1 2 'y'")
	say(t, s, 0, "law allow docs any", "law", "law", "law allow team not any")
	hears(t, s, 1, "delta 0 8; +1 1 'x'", "delta 0 9; -1 1 'x'; -1 2 'y'")
	say(t, s, 0, "law allow docs any", "law allow docs any;allow team any", "law allow team any")
	hears(t, s, 1, "delta 0 10; +1 1 'x'; +1 2 'y'", "delta 1 1; +1 'y' 'ann'", "delta 0 11; -1 1 'x'; -1 2 'y'")
}

// Rules that change nothing of a view: nothing is put out, and no room is used up.
func TestRulesThatChangeNothing(t *testing.T) {
	s := start(t, false, 1, "root", "ann")
	say(t, s, 0, "put docs 1 'x'", "put docs 2 'x'", "law allow docs lt 1 3")
	say(t, s, 1, "sub 0 all docs", "sub 1 count 2 all docs", "sub 2 keep eq 1 1 all docs", "sub 3 all team")
	say(t, s, 0, "law allow docs lt 1 3", "law allow docs any", "law allow docs not not any;mask docs 1 9 any", "law allow docs eq 1 1;allow docs eq 1 2;allow team any")
	hears(t, s, 1, "ok", "snap 0 0; +1 1 'x'; +1 2 'x'", "ok", "snap 1 0; +1 'x' 2", "ok", "snap 2 0; +1 1 'x'", "ok", "snap 3 0")
	// A mask that no view but one tells of.
	say(t, s, 0, "law allow docs any;mask docs 1 0 eq 1 1")
	hears(t, s, 1, "delta 0 1; +1 0 'x'; -1 2 'x'")
	// One row is seen as the other one was.
	say(t, s, 0, "law allow docs eq 1 1")
	hears(t, s, 1, "delta 0 2; -1 0 'x'", "delta 1 1; +1 'x' 1; -1 'x' 2")
	say(t, s, 0, "law allow docs eq 1 2;mask docs 1 1 not any")
	hears(t, s, 1)
}

// Views over masked rows are over what is seen, never over what is there.
func TestViewsOverMaskedRows(t *testing.T) {
	const law = "law allow docs not eq 1 9;mask docs 1 0 eq 2 me;mask docs 2 'q' lt 1 3;allow team any;mask team 2 'ann' not any"
	// ann sees 0 'q' twice, 0 'x', 2 'ann'; and 'x' 'ann' twice.
	for view, rows := range map[string]string{
		"all docs":                          "; +2 0 'q'; +1 0 'x'; +1 2 'ann'",
		"all team":                          "; +2 'x' 'ann'",
		"keep eq 1 0 all docs":              "; +2 0 'q'; +1 0 'x'",
		"keep eq 1 5 all docs":              "",
		"keep eq 2 me all docs":             "; +1 2 'ann'",
		"keep eq 2 'bob' all docs":          "",
		"keep lt 1 1 all docs":              "; +2 0 'q'; +1 0 'x'",
		"keep eq 2 me all team":             "; +2 'x' 'ann'",
		"pick 1 all docs":                   "; +3 0; +1 2",
		"pick - all docs":                   "; +4",
		"count 1 all docs":                  "; +1 0 3; +1 2 1",
		"count 2 all docs":                  "; +1 'ann' 1; +1 'q' 2; +1 'x' 1",
		"count - all docs":                  "; +1 4",
		"sum 1 - all docs":                  "; +1 2",
		"sum 1 2 all docs":                  "; +1 'ann' 2; +1 'q' 0; +1 'x' 0",
		"join 2 1 all docs all team":        "; +2 0 'x' 'x' 'ann'",
		"join 2 2 all docs all team":        "; +2 2 'ann' 'x' 'ann'",
		"pick 1 join 1 1 all docs all docs": "; +9 0; +1 2",
		"both all docs all docs":            "; +4 0 'q'; +2 0 'x'; +2 2 'ann'",
	} {
		for _, share := range []bool{true, false} {
			s := start(t, share, 8, "root", "ann")
			asks(t, s, 1, "sub 1 "+view, "ok", "snap 1 0")
			say(t, s, 0, "put docs 5 'bob'", "put docs 4 ''", "put docs 1 'x'", "put docs 2 'ann'", "put docs 9 'ann'", "put team 'x' 'bob'", "put team 'x' ''")
			say(t, s, 0, law)
			hearsChange(t, s, 1, "delta 1 1", rows)
			asks(t, s, 1, "sub 0 "+view, "ok", "snap 0 0"+rows)
		}
	}
}

// A change of one row may leave what is seen the same, or change the times alone.
func TestRowsThatBecomeTheSameByAMask(t *testing.T) {
	s := start(t, true, 8, "root", "ann")
	say(t, s, 0, "law allow docs any;mask docs 1 0 not any")
	say(t, s, 1, "sub 0 all docs", "sub 1 join 1 1 all docs all docs")
	s.Drain(1, 100)
	script{
		{"put docs 1 'x'", []string{"delta 0 1; +1 0 'x'", "delta 1 1; +1 0 'x' 0 'x'"}},
		{"put docs 2 'x'", []string{"delta 0 2; +1 0 'x'", "delta 1 2; +3 0 'x' 0 'x'"}},
		{"put docs 0 'x'", []string{"delta 0 3; +1 0 'x'", "delta 1 3; +5 0 'x' 0 'x'"}},
		{"del docs 1 'x'", []string{"delta 0 4; -1 0 'x'", "delta 1 4; -5 0 'x' 0 'x'"}},
		{"del docs 1 'x'", nil},
		{"law allow docs any;mask docs 1 0 eq 1 2", []string{"delta 0 5; -1 0 'x'; +1 2 'x'", "delta 1 5; -3 0 'x' 0 'x'; +1 2 'x' 2 'x'"}},
		{"law allow docs any;mask docs 1 2 eq 1 0", []string{}},
		{"law allow docs eq 1 2;mask docs 1 0 not any", []string{"delta 0 6; -1 2 'x'", "delta 1 6; -1 2 'x' 2 'x'"}},
		{"law allow docs eq 1 0", nil},
	}.run(t, s, 1)
}

func TestExampleFour(t *testing.T) {
	const law = "law allow docs in 2 team 1 2;mask docs 1 0 eq 2 'blue'"
	for _, slow := range []bool{true, false} {
		s := start(t, true, 2, "root", "ann")
		for _, request := range []string{"put docs 1 'red'", "put docs 2 'blue'", "put team 'red' 'ann'"} {
			asks(t, s, 0, request, "ok")
		}
		say(t, s, 1, "sub 0 all docs")
		if !slow {
			hears(t, s, 1, "ok", "snap 0 0")
		}
		asks(t, s, 0, law, "ok")
		if !slow {
			hears(t, s, 1, "delta 0 1; +1 0 'red'")
		}
		asks(t, s, 0, "put team 'blue' 'ann'", "ok")
		if slow {
			hears(t, s, 1, "ok", "reset 0 2; +1 0 'red'; +1 2 'blue'")
		} else {
			hears(t, s, 1, "delta 0 2; +1 2 'blue'")
		}
		asks(t, s, 0, "put docs 5 'green'", "ok")
		hears(t, s, 1)
		asks(t, s, 0, "put docs 7 'red'", "ok")
		hears(t, s, 1, "delta 0 3; +1 0 'red'")
	}
}

// The rules of a server are its own, and stay when sessions go.
func TestRulesAreTheServersOwn(t *testing.T) {
	one, two := start(t, true, 8, "root", "ann"), start(t, true, 8, "root", "ann")
	for _, s := range []*Server{one, two} {
		say(t, s, 0, "put docs 1 'x'")
		asks(t, s, 1, "sub 0 all docs", "ok", "snap 0 0")
	}
	say(t, one, 0, "law allow docs any")
	hears(t, one, 1, "delta 0 1; +1 1 'x'")
	hears(t, two, 1)
	one.Close(0)
	one.Close(1)
	wantErrno(t, "Open", one.Open(5, "bob"), api.OK)
	asks(t, one, 5, "sub 0 all docs", "ok", "snap 0 0; +1 1 'x'")
	asks(t, two, 1, "sub 1 all docs", "ok", "snap 1 0")
}

// All in one Feed, request by request.
func TestRulesAndRowsInOneFeed(t *testing.T) {
	s := start(t, true, 8, "root", "ann")
	asks(t, s, 1, "sub 0 all docs", "ok", "snap 0 0")
	bytes := ""
	for _, request := range []string{"put docs 1 'x'", "law allow docs any", "law x", "del docs 1 'x'", "law", "put docs 2 'x'"} {
		bytes += framed(request)
	}
	wantErrno(t, "Feed", s.Feed(0, bytes), api.OK)
	hears(t, s, 0, "ok", "ok", "no 4", "ok", "ok", "ok")
	hears(t, s, 1, "delta 0 1; +1 1 'x'", "delta 0 2; -1 1 'x'")
}

// Tables of other shapes: all columns masked, rules for each of six tables.
func TestRulesOfManyTables(t *testing.T) {
	schema := "a int;b text int;c int int int int int;d text;e text text;f int text"
	s, errno := New(schema, true, 8)
	if errno != api.OK {
		t.Fatal(errno)
	}
	s.Open(0, "root")
	s.Open(1, "ann")
	say(t, s, 0, "put a 1", "put b 'x' 2", "put c 1 2 3 4 5", "put d 'ann'", "put e 'x' 'y'", "put f 1 'ann'")
	say(t, s, 0, "law allow a in 1 f 1 2;allow b in 2 f 1 2;allow c any;mask c 1 6 not any;mask c 3 7 not any;mask c 5 8 not any;allow d in 1 d 1 1;allow e in 1 b 1 1")
	for i, c := range []struct{ table, rows string }{{"a", "; +1 1"}, {"b", ""}, {"c", "; +1 6 2 7 4 8"}, {"d", "; +1 'ann'"}, {"e", ""}, {"f", ""}} {
		n := strconv.Itoa(i % 4)
		asks(t, s, 1, "sub "+n+" all "+c.table, "ok", "snap "+n+" 0"+c.rows)
		asks(t, s, 1, "end "+n, "ok")
	}
}
