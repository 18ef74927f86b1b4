package graph

import (
	"math/rand"
	"testing"
)

// seenBy is a node of what one sees of the docs, and a probe that uses it.
func seenBy(t testing.TB, g *Graph, who string) (*seen, *probe) {
	t.Helper()
	n, ok := g.node(who, read(t, "all docs")).(*seen)
	if !ok {
		t.Fatal("no node of what one sees")
	}
	p := &probe{}
	n.addUse(use{who: who, by: p})
	return n, p
}

// wantTold wants a probe to have been told all this at once, and forgets it.
func wantTold(t testing.TB, p *probe, want string) {
	t.Helper()
	got := ""
	for _, change := range p.told {
		got += "|" + change.Text()
	}
	if got != want {
		t.Errorf("told %q, want %q", got, want)
	}
	p.told = nil
}

// Of a table that rules look at only what one finds in it otherwise than before goes on.
func TestLooksTellOfChangesAlone(t *testing.T) {
	g := New(home(t), true)
	g.Rule(law(t, "allow docs in 2 team 1 2;mask docs 1 0 in 2 team 2 1"))
	for i := range 10 {
		g.Change(docs, doc(int64(i), "x"), 1)
		g.Change(docs, doc(int64(i), "y"), 1)
	}
	g.Change(docs, doc(5, "z"), 2)
	n, p := seenBy(t, g, "ann")
	if len(n.held()) != 0 {
		t.Errorf("held at first: %v", n.held())
	}
	g.Change(team, pair("z", "ann"), 1)
	wantTold(t, p, "|; +2 0 'z'")
	g.Change(team, pair("z", "ann"), 1)
	g.Change(team, pair("x", "bob"), 1)
	g.Change(team, pair("w", "ann"), 1)
	wantTold(t, p, "")
	g.Change(team, pair("ann", "z"), 1)
	wantTold(t, p, "|; -2 0 'z'; +2 5 'z'")
	g.Change(team, pair("z", "ann"), -1)
	wantTold(t, p, "")
	g.Change(docs, doc(6, "z"), 1)
	wantTold(t, p, "|; +1 6 'z'")
	g.Change(team, pair("z", "ann"), -1)
	wantTold(t, p, "|; -2 5 'z'; -1 6 'z'")
}

// New rules tell all that is other than before at once.
func TestNewRulesAreToldAtOnce(t *testing.T) {
	g := New(home(t), true)
	g.Change(docs, doc(1, "ann"), 1)
	g.Change(docs, doc(2, "bob"), 3)
	g.Change(team, pair("bob", "ann"), 1)
	_, p := seenBy(t, g, "ann")
	for _, c := range []struct{ law, want string }{
		{"allow docs eq 2 me", "|; +1 1 'ann'"},
		{"allow docs in 2 team 1 2", "|; -1 1 'ann'; +3 2 'bob'"},
		{"allow docs eq 1 2", ""},
		{"allow docs in 2 team 1 2;mask docs 2 'ann' lt 1 0;mask docs 1 1 lt 1 0", "|; +3 1 'ann'; -3 2 'bob'"},
		{"allow docs any;mask docs 2 'ann' lt 1 0;mask docs 1 1 lt 1 0", "|; +1 1 'ann'"},
		{"", "|; -4 1 'ann'"},
		{"allow team any", ""},
	} {
		g.Rule(law(t, c.law))
		wantTold(t, p, c.want)
	}
}

// A node is told of the tables that its rules look at, and of no others; and not worked out anew where its own rules are the same.
func TestWhatRulesLookAt(t *testing.T) {
	g := New(home(t), true)
	n, _ := seenBy(t, g, "ann")
	for _, c := range []struct {
		law        string
		docs, team int
	}{
		{"", 1, 0},
		{"allow docs in 2 team 1 2", 1, 1},
		{"allow docs in 2 team 1 2;allow docs in 2 team 1 2;mask docs 1 0 or in 2 team 1 2 in 2 team 2 1", 1, 2},
		{"allow docs in 2 docs 2 2", 2, 0},
		{"allow docs not and in 2 docs 2 2 in 2 team 2 2", 2, 1},
		{"allow team in 2 docs 2 2", 1, 0},
		{"allow docs any", 1, 0},
	} {
		g.Rule(law(t, c.law))
		if len(g.tables[docs].uses) != c.docs || len(g.tables[team].uses) != c.team || len(n.over()) != c.docs+c.team {
			t.Errorf("%q: used %d and %d times", c.law, len(g.tables[docs].uses), len(g.tables[team].uses))
		}
	}
	if n.takeLaw(law(t, "allow docs any;allow team any"), g.tables) {
		t.Error("the same rules are taken for others")
	}
	if !n.takeLaw(law(t, "allow docs any;allow docs any"), g.tables) {
		t.Error("other rules are taken for the same")
	}
}

func TestEachOneHasAGoroutineForNewRules(t *testing.T) {
	g := New(home(t), true)
	g.Change(docs, doc(1, "a"), 1)
	a, b := make(chan int), make(chan int)
	first, second := &meeting{own: a, other: b}, &meeting{own: b, other: a}
	g.node("ann", read(t, "all docs")).addUse(use{who: "ann", by: first})
	g.node("bob", read(t, "all docs")).addUse(use{who: "bob", by: second})
	g.Rule(law(t, "allow docs any"))
	if !first.met || !second.met {
		t.Error("one's views wait for another's")
	}
}

// Of tables that are empty, and rules that are gone, nothing is kept.
func TestSeenNodesKeepNothingOfWhatIsGone(t *testing.T) {
	g := New(home(t), true)
	n, _ := seenBy(t, g, "ann")
	g.Rule(law(t, "allow docs in 2 team 1 2"))
	for _, times := range []int64{2, -1, -1} {
		g.Change(docs, doc(1, "a"), times)
		g.Change(team, pair("a", "ann"), times)
	}
	if len(n.whole)+len(n.held())+len(n.asker.looks[0].found) > 0 {
		t.Errorf("left: %v, %v, %v", n.whole, n.held(), n.asker.looks[0].found)
	}
	g.Rule(law(t, ""))
	if len(n.asker.looks) > 0 || len(n.over()) != 1 {
		t.Error("looks are left")
	}
}

// What one sees by changes, of tables and of rules, is what they would see if they asked now.
func TestChangesComeToWhatIsSeen(t *testing.T) {
	laws := []string{
		"", "allow docs any", "allow docs eq 2 me;allow team eq 2 me", "allow docs in 2 team 1 2;allow team any",
		"allow docs in 2 docs 2 2;mask docs 1 0 in 2 docs 2 2", "allow team in 1 team 2 1;mask team 1 'a' in 1 team 1 2;allow docs in 2 team 1 1",
		"allow docs not in 2 team 1 2;mask docs 2 'b' in 2 docs 2 2;mask docs 1 1 lt 1 1;allow team or in 2 docs 2 2 in 1 team 2 2",
		"allow team or in 1 team 1 2 in 2 team 1 2;mask team 1 'a' in 1 team 1 1;mask team 2 'b' in 1 team 2 2;allow docs in 2 team 1 2;allow docs in 2 team 1 1",
	}
	texts := []string{"all docs", "all team", "count 2 join 2 1 all docs all team", "sum 1 - both all docs all docs", "join 1 2 all team join 1 1 all docs all docs"}
	random := rand.New(rand.NewSource(1))
	g := New(home(t), false)
	views := map[string]*View{}
	for _, who := range []string{"a", "b"} {
		for _, text := range texts {
			views[who+text] = g.View(who, read(t, text))
		}
	}
	letter := func() string { return string(rune('a' + random.Intn(3))) }
	held := 0
	for range 1000 {
		table, row := docs, doc(int64(random.Intn(3)), letter())
		if random.Intn(2) == 0 {
			table, row = team, pair(letter(), letter())
		}
		times := int64(1)
		if g.Times(table, row) > 0 && random.Intn(4) > 0 || g.Size(table) > 6 {
			times = -g.Times(table, row)
		}
		if random.Intn(10) == 0 {
			g.Rule(law(t, laws[random.Intn(len(laws))]))
		} else if times != 0 {
			g.Change(table, row, times)
		}
		for key, view := range views {
			fresh := g.View(key[:1], read(t, key[1:]))
			if got, want := view.Rows(), fresh.Rows(); got != want {
				t.Fatalf("%q: %q, want %q", key, got, want)
			}
			held += len(fresh.top.held())
			fresh.End()
		}
	}
	if held < 10000 {
		t.Errorf("%d rows were held in all: too few to tell", held)
	}
}
