package veil

import (
	"strconv"
	"strings"
	"testing"

	"veil/api"
)

// refusals are requests to an empty server, with what root and others are answered. Where more than one error applies, the first of the document's is wanted.
var refusals = []struct{ request, root, other string }{
	{"hello", "no 7", "no 7"},
	{" ", "no 7", "no 7"},
	{"\x00", "no 7", "no 7"},
	{"\xff\xfe", "no 7", "no 7"},
	{"SUB 0 all docs", "no 7", "no 7"},
	{"Put docs 1 'x'", "no 7", "no 7"},
	{" put docs 1 'x'", "no 7", "no 7"},
	{"putdocs 1 'x'", "no 7", "no 7"},
	{"put\tdocs 1 'x'", "no 7", "no 7"},
	{"laws", "no 7", "no 7"},
	{"law;", "no 7", "no 7"},
	{"ok", "no 7", "no 7"},
	{"bye", "no 7", "no 7"},
	{strings.Repeat("x", api.MaxFrame), "no 7", "no 7"},

	{"sub", "no 7", "no 7"},
	{"sub ", "no 7", "no 7"},
	{"sub 4", "no 7", "no 7"},
	{"sub 4 all docs", "no 7", "no 7"},
	{"sub 9 all docs", "no 7", "no 7"},
	{"sub -1 all docs", "no 7", "no 7"},
	{"sub 00 all docs", "no 7", "no 7"},
	{"sub  0 all docs", "no 7", "no 7"},
	{"sub all docs", "no 7", "no 7"},
	{"sub 0all docs", "no 7", "no 7"},
	{"sub x all x", "no 7", "no 7"},
	{"sub 0", "no 3", "no 3"},
	{"sub 3 ", "no 3", "no 3"},
	{"sub 1 all x", "no 3", "no 3"},
	{"sub 1 all docs ", "no 3", "no 3"},
	{"sub 1  all docs", "no 3", "no 3"},
	{"sub 1 keep in 2 team 1 2 all docs", "no 3", "no 3"},
	{"sub 1 keep eq 1 me all docs", "no 3", "no 3"},
	{"sub 1 " + strings.Repeat("keep any ", 30) + "all docs", "no 3", "no 3"},
	{"sub 1 join 1 1 all docs " + strings.Repeat("join 1 1 all docs ", 3) + "all docs", "no 3", "no 3"},

	{"end", "no 7", "no 7"},
	{"end ", "no 7", "no 7"},
	{"end 4", "no 7", "no 7"},
	{"end 00", "no 7", "no 7"},
	{"end x", "no 7", "no 7"},
	{"end 0 ", "no 7", "no 7"},
	{"end 0 0", "no 7", "no 7"},
	{"end 0 all docs", "no 7", "no 7"},
	{"end 0", "no 10", "no 10"},
	{"end 3", "no 10", "no 10"},

	{"put", "no 11", "no 8"},
	{"put ", "no 11", "no 8"},
	{"put x", "no 11", "no 8"},
	{"put x 1 'a'", "no 11", "no 8"},
	{"put DOCS 1 'a'", "no 11", "no 8"},
	{"put  docs 1 'a'", "no 11", "no 8"},
	{"put docs;team 1 'a'", "no 11", "no 8"},
	{"put docs", "no 12", "no 8"},
	{"put docs ", "no 12", "no 8"},
	{"put docs 1", "no 12", "no 8"},
	{"put docs 'a'", "no 12", "no 8"},
	{"put docs 'a' 1", "no 12", "no 8"},
	{"put docs 1 1", "no 12", "no 8"},
	{"put docs 1 'a' 'a'", "no 12", "no 8"},
	{"put docs 1 'a' ", "no 12", "no 8"},
	{"put docs  1 'a'", "no 12", "no 8"},
	{"put docs 1  'a'", "no 12", "no 8"},
	{"put docs 01 'a'", "no 12", "no 8"},
	{"put docs -0 'a'", "no 12", "no 8"},
	{"put docs +1 'a'", "no 12", "no 8"},
	{"put docs 1000000000000001 'a'", "no 12", "no 8"},
	{"put docs -1000000000000001 'a'", "no 12", "no 8"},
	{"put docs 99999999999999999999 'a'", "no 12", "no 8"},
	{"put docs 1 me", "no 12", "no 8"},
	{"put docs 1 'A'", "no 12", "no 8"},
	{"put docs 1 'a", "no 12", "no 8"},
	{"put docs 1 'abcdefghijklm'", "no 12", "no 8"},
	{"put team 'a'", "no 12", "no 8"},

	{"del", "no 11", "no 8"},
	{"del x 1", "no 11", "no 8"},
	{"del docs", "no 12", "no 8"},
	{"del docs x", "no 12", "no 8"},
	{"del docs 1 'a'", "no 10", "no 8"},
	{"del team 'a' 'a'", "no 10", "no 8"},

	{"law ", "no 4", "no 8"},
	{"law allow x any", "no 4", "no 8"},
	{"law x", "no 4", "no 8"},
}

func TestRefusals(t *testing.T) {
	for _, share := range []bool{true, false} {
		s := start(t, share, 8, "root", "ann", "roo", "rootx", "root")
		say(t, s, 4, "sub 2 both pick 2 all docs pick 1 all team")
		hears(t, s, 4, "ok", "snap 2 0")
		for _, c := range refusals {
			asks(t, s, 0, c.request, c.root)
			for session := 1; session <= 3; session++ {
				asks(t, s, session, c.request, c.other)
			}
		}
		hears(t, s, 4)
	}
}

// Errors in the document's order, where the request is wrong in more than one way.
func TestTheFirstErrorOfARequestIsTheAnswer(t *testing.T) {
	s := start(t, true, 8, "root", "ann")
	for _, session := range []int{0, 1} {
		asks(t, s, session, "sub 0 all docs", "ok", "snap 0 0")
		asks(t, s, session, "sub 0 all x", "no 9")
		asks(t, s, session, "sub 0", "no 9")
		asks(t, s, session, "sub 0 all docs", "no 9")
		asks(t, s, session, "sub 1 all x", "no 3")
		asks(t, s, session, "end 0 x", "no 7")
		asks(t, s, session, "end 0", "ok")
		asks(t, s, session, "end 0", "no 10")
		asks(t, s, session, "sub 0 all x", "no 3")
	}
	for range api.MaxRows {
		asks(t, s, 0, "put docs 1 'a'", "ok")
	}
	asks(t, s, 0, "put docs 1 'a'", "no 13")
	asks(t, s, 0, "put docs 2 'b'", "no 13")
	asks(t, s, 0, "put docs 'a'", "no 12")
	asks(t, s, 0, "put dots 'a'", "no 11")
	asks(t, s, 1, "put docs 1 'a'", "no 8")
	asks(t, s, 0, "del docs 2 'b'", "no 10")
	asks(t, s, 0, "del docs 2", "no 12")
	asks(t, s, 0, "put team 'a' 'a'", "ok")
}

// A session's subscriptions are its own, another's with the same number too.
func TestSubscriptionsAreASessionsOwn(t *testing.T) {
	s := start(t, true, 8, "ann", "ann", "root")
	for session := range 3 {
		for number := range api.MaxSubs {
			n := strconv.Itoa(number)
			asks(t, s, session, "sub "+n+" all docs", "ok", "snap "+n+" 0")
			asks(t, s, session, "sub "+n+" all docs", "no 9")
		}
	}
	asks(t, s, 0, "end 2", "ok")
	asks(t, s, 0, "end 2", "no 10")
	asks(t, s, 1, "end 2", "ok")
	asks(t, s, 0, "sub 2 all team", "ok", "snap 2 0")
	asks(t, s, 2, "put docs 0 ''", "ok", "delta 0 1; +1 0 ''", "delta 1 1; +1 0 ''", "delta 2 1; +1 0 ''", "delta 3 1; +1 0 ''")
}

func TestPutAndDel(t *testing.T) {
	s := start(t, true, 8, "root")
	for _, row := range []string{"1 'a'", "-1000000000000000 'abcdefghijkl'", "1000000000000000 ''", "0 '_'", "0 '0'", "-1 '9z_'"} {
		asks(t, s, 0, "put docs "+row, "ok")
		asks(t, s, 0, "put docs "+row, "ok")
		asks(t, s, 0, "sub 0 all docs", "ok", "snap 0 0; +2 "+row)
		asks(t, s, 0, "del docs "+row, "ok", "delta 0 1; -1 "+row)
		asks(t, s, 0, "del docs "+row, "ok", "delta 0 2; -1 "+row)
		asks(t, s, 0, "del docs "+row, "no 10")
		asks(t, s, 0, "end 0", "ok")
	}
}

func TestATableThatIsFull(t *testing.T) {
	s := start(t, true, 8, "root")
	say(t, s, 0, "sub 0 count - all docs")
	for i := range api.MaxRows {
		say(t, s, 0, "put docs "+strconv.Itoa(i%5)+" 'a'")
		s.Drain(0, 4)
	}
	asks(t, s, 0, "put docs 1 'a'", "no 13")
	asks(t, s, 0, "put docs 9 'z'", "no 13")
	asks(t, s, 0, "del docs 9 'z'", "no 10")
	asks(t, s, 0, "del docs 1 'a'", "ok", "delta 0 33; +1 31; -1 32")
	asks(t, s, 0, "put docs 9 'z'", "ok", "delta 0 34; -1 31; +1 32")
	asks(t, s, 0, "put docs 9 'z'", "no 13")
	for range api.MaxRows {
		say(t, s, 0, "put team 'a' 'b'")
	}
	s.Drain(0, api.MaxRows)
	asks(t, s, 0, "put team 'a' 'b'", "no 13")
}
