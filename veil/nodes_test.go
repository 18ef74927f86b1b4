package veil

import (
	"testing"

	"veil/api"
)

func wantNodes(t *testing.T, s *Server, when string, want int) {
	t.Helper()
	if got := s.Nodes(); got != want {
		t.Errorf("%s: %d nodes, want %d", when, got, want)
	}
}

// counts is how many nodes a view has, beside those of the tables.
type counts struct {
	root, rootShared int
	ann, annShared   int
}

var nodesOf = map[string]counts{
	"all docs":                        {0, 0, 1, 1},
	"all team":                        {0, 0, 1, 1},
	"keep any all docs":               {1, 1, 2, 2},
	"keep eq 2 'all' all docs":        {1, 1, 2, 2},
	"keep and any not any all docs":   {1, 1, 2, 2},
	"pick 1 all docs":                 {1, 1, 2, 2},
	"pick - all docs":                 {1, 1, 2, 2},
	"count 2 all docs":                {1, 1, 2, 2},
	"sum 1 2 all docs":                {1, 1, 2, 2},
	"join 1 1 all docs all docs":      {1, 1, 3, 2},
	"join 2 1 all docs all team":      {1, 1, 3, 3},
	"both all docs all docs":          {1, 1, 3, 2},
	"both all docs pick 1,2 all docs": {2, 2, 4, 3},
	// The same words, one in the other one.
	"keep any keep any all docs":                                                             {2, 2, 3, 3},
	"both keep any all docs keep any all docs":                                               {3, 2, 5, 3},
	"both keep any all docs keep any keep any all docs":                                      {4, 3, 6, 4},
	"both both all docs all docs both all docs all docs":                                     {3, 2, 7, 3},
	"both both keep any all docs keep any all docs both keep any all docs keep any all docs": {7, 3, 11, 4},
	"both join 1 1 pick 1 all docs pick 1 all docs join 1 1 pick 1 all docs pick 1 all docs": {7, 3, 11, 4},
	"both count - count 1 all docs count - count 1 all docs":                                 {5, 3, 7, 4},
	"join 1 1 sum 1 2 all docs count 2 all docs":                                             {3, 3, 5, 4},
	// Other words are others, though they come to the same.
	"both keep any all docs keep not not any all docs":    {3, 3, 5, 4},
	"both keep eq 2 me all docs keep eq 2 'ann' all docs": {3, 3, 5, 4},
	"both pick 1,1 all docs pick 1,1 pick 1 all docs":     {4, 4, 6, 5},
}

func (c counts) of(who string, share bool) int {
	switch {
	case who == "root" && share:
		return c.rootShared
	case who == "root":
		return c.root
	case share:
		return c.annShared
	}
	return c.ann
}

// Each view by itself, twice in one session, in two sessions of one, and of two; and how they end.
func TestNodes(t *testing.T) {
	for view, c := range nodesOf {
		if _, errno := Check(home, view); errno != api.OK {
			t.Errorf("%q is no view", view)
		}
		for _, share := range []bool{true, false} {
			for _, who := range []string{"root", "ann"} {
				s := start(t, share, 8, who, who, "bob", "root")
				one, bob := c.of(who, share), c.of("bob", share)
				more := one
				if share {
					more = 0
				}
				wantNodes(t, s, "at first", 2)
				say(t, s, 0, "sub 0 "+view)
				wantNodes(t, s, view, 2+one)
				say(t, s, 0, "sub 3 "+view)
				wantNodes(t, s, view+" twice", 2+one+more)
				say(t, s, 1, "sub 0 "+view)
				wantNodes(t, s, view+" in two sessions", 2+one+2*more)
				say(t, s, 2, "sub 0 "+view)
				wantNodes(t, s, view+" of two", 2+one+2*more+bob)
				say(t, s, 3, "put docs 1 'a'", "law allow docs any;allow team in 1 team 1 2", "put team 'a' 'ann'", "del docs 1 'a'", "law")
				wantNodes(t, s, view+" with rules", 2+one+2*more+bob)
				say(t, s, 0, "end 0")
				wantNodes(t, s, view+" behind end", 2+one+more+bob)
				wantErrno(t, "Close", s.Close(1), api.OK)
				wantNodes(t, s, view+" behind Close", 2+one+bob)
				s.Feed(2, framed(""))
				wantNodes(t, s, view+" behind broken bytes", 2+one)
				say(t, s, 0, "end 3")
				wantNodes(t, s, view+" at last", 2)
			}
		}
	}
}

// Requests that are refused make no node, and take none.
func TestRefusedRequestsChangeNoNodes(t *testing.T) {
	for _, share := range []bool{true, false} {
		s := start(t, share, 8, "root", "ann")
		say(t, s, 1, "sub 0 keep any all docs")
		wantNodes(t, s, "at first", 4)
		for _, c := range refusals {
			say(t, s, 0, c.request)
			if c.request != "end 0" {
				say(t, s, 1, c.request)
			}
			wantNodes(t, s, c.request, 4)
		}
		for _, request := range []string{"sub 0 all team", "sub 1 all x", "sub 1 both all docs all team", "sub 1 keep any keep any", "end 1", "sub 4 all team", "law allow docs any", "put docs 1 'a'"} {
			say(t, s, 1, request)
			wantNodes(t, s, request, 4)
		}
		wantErrno(t, "Close", s.Close(2), api.ErrSession)
		wantErrno(t, "Open", s.Open(1, "ann"), api.ErrSession)
		wantErrno(t, "Feed", s.Feed(3, framed("sub 1 all team")), api.ErrSession)
		wantNodes(t, s, "behind calls that are refused", 4)
		say(t, s, 1, "end 0", "end 0")
		wantNodes(t, s, "at last", 2)
	}
}

// A part stays as long as one has it, in whatever order those go that do.
func TestAPartStaysAsLongAsOneHasIt(t *testing.T) {
	s := start(t, true, 8, "root", "ann", "ann")
	say(t, s, 0, "law allow docs any")
	asks(t, s, 1, "sub 0 keep any all docs", "ok", "snap 0 0")
	asks(t, s, 1, "sub 1 count - keep any all docs", "ok", "snap 1 0")
	asks(t, s, 2, "sub 0 all docs", "ok", "snap 0 0")
	wantNodes(t, s, "three views", 5)
	asks(t, s, 1, "end 0", "ok")
	wantNodes(t, s, "two views", 5)
	say(t, s, 0, "put docs 1 'a'")
	hears(t, s, 1, "delta 1 1; +1 1")
	hears(t, s, 2, "delta 0 1; +1 1 'a'")
	asks(t, s, 1, "sub 0 keep any all docs", "ok", "snap 0 0; +1 1 'a'")
	asks(t, s, 1, "end 1", "ok")
	wantNodes(t, s, "two views again", 4)
	say(t, s, 0, "put docs 2 'a'")
	hears(t, s, 1, "delta 0 1; +1 2 'a'")
	hears(t, s, 2, "delta 0 2; +1 2 'a'")
	asks(t, s, 1, "end 0", "ok")
	wantNodes(t, s, "one view", 3)
	s.Close(2)
	wantNodes(t, s, "no view", 2)
	// What is asked for again is worked out again.
	say(t, s, 0, "del docs 1 'a'", "law allow docs any;mask docs 1 0 not any")
	asks(t, s, 1, "sub 0 count - keep any all docs", "ok", "snap 0 0; +1 1")
	asks(t, s, 1, "sub 1 keep any all docs", "ok", "snap 1 0; +1 0 'a'")
	wantNodes(t, s, "two new views", 5)
}

// One whose session is closed, and opened for another one, leaves nothing to that one.
func TestNodesOfOneAreNeverAnothers(t *testing.T) {
	s := start(t, true, 8, "root", "ann")
	say(t, s, 0, "put docs 1 'ann'", "put docs 2 'bob'", "law allow docs eq 2 me")
	for range 3 {
		asks(t, s, 1, "sub 0 all docs", "ok", "snap 0 0; +1 1 'ann'")
		wantErrno(t, "Open", s.Open(2, "bob"), api.OK)
		asks(t, s, 2, "sub 0 all docs", "ok", "snap 0 0; +1 2 'bob'")
		wantNodes(t, s, "ann and bob", 4)
		s.Close(1)
		s.Close(2)
		s.Open(1, "bob")
		asks(t, s, 1, "sub 0 all docs", "ok", "snap 0 0; +1 2 'bob'")
		wantNodes(t, s, "bob", 3)
		s.Close(1)
		s.Open(1, "ann")
		wantNodes(t, s, "nobody", 2)
	}
}

// Tables may have the names of operators.
func TestNodesOfTablesWithOddNames(t *testing.T) {
	for _, share := range []bool{true, false} {
		s, errno := New("all int;keep int;any int", share, 8)
		if errno != api.OK {
			t.Fatal(errno)
		}
		s.Open(0, "root")
		s.Open(1, "ann")
		wantNodes(t, s, "at first", 3)
		say(t, s, 0, "sub 0 all all", "sub 1 both all all all keep")
		wantNodes(t, s, "root", 4)
		say(t, s, 1, "sub 0 all all", "sub 1 both all any all keep", "sub 2 keep any all any")
		want := 10
		if share {
			want = 9
		}
		wantNodes(t, s, "ann", want)
	}
}

func TestExampleSix(t *testing.T) {
	for share, behind := range map[bool]int{true: 4, false: 5} {
		s := start(t, share, 2, "root", "ann")
		wantNodes(t, s, "at first", 2)
		say(t, s, 1, "sub 0 all docs")
		wantNodes(t, s, "ann's docs", 3)
		say(t, s, 1, "sub 1 keep eq 2 'red' all docs")
		wantNodes(t, s, "ann's red docs", behind)
		say(t, s, 0, "sub 0 all docs")
		wantNodes(t, s, "root's docs", behind)
		say(t, s, 1, "end 0", "end 1")
		say(t, s, 0, "end 0")
		wantNodes(t, s, "at last", 2)
	}
}

// What share is changes nothing but Nodes.
func TestShareChangesNothingElse(t *testing.T) {
	one, two := start(t, true, 2, "root", "ann", "ann"), start(t, false, 2, "root", "ann", "ann")
	both := func(session int, request string) {
		t.Helper()
		say(t, one, session, request)
		say(t, two, session, request)
		for i := range 3 {
			a, _ := one.Drain(i, 1)
			b, _ := two.Drain(i, 1)
			if a != b {
				t.Errorf("%q: session %d hears %q, or %q if not shared", request, i, a, b)
			}
		}
	}
	for i, view := range []string{"all docs", "both all docs all docs", "count - both all docs all docs", "join 1 1 keep any all docs keep any all docs"} {
		both(i%3, "sub 0 "+view)
		both((i+1)%3, "sub 1 "+view)
		both((i+2)%3, "sub 2 "+view)
		for _, request := range seenRows {
			both(0, request)
		}
		for _, c := range seenDocs {
			both(0, lawOf(c.law))
		}
		both(1, "end 1")
		both(2, "end 0")
	}
}
