package graph

import (
	"math/rand"
	"runtime"
	"strconv"
	"testing"
	"time"

	"veil/api"
	"veil/rows"
	"veil/syntax"
)

const docs, team = 0, 1

func home(t testing.TB) syntax.Schema {
	t.Helper()
	schema, err := syntax.ReadSchema("docs int text;team text text")
	if err != nil {
		t.Fatal(err)
	}
	return schema
}

func read(t testing.TB, text string) *syntax.View {
	t.Helper()
	view, err := syntax.ReadView(home(t), text)
	if err != nil {
		t.Fatalf("%q: %v", text, err)
	}
	return view
}

func law(t testing.TB, text string) syntax.Law {
	t.Helper()
	read, err := syntax.ReadLaw(home(t), text)
	if err != nil {
		t.Fatalf("%q: %v", text, err)
	}
	return read
}

func doc(number int64, text string) rows.Row { return rows.Number(number) + rows.Text(text) }

func pair(first, second string) rows.Row { return rows.Text(first) + rows.Text(second) }

// probe is a user that keeps what it is told.
type probe struct{ told []rows.Bag }

func (p *probe) change(_ int, change rows.Bag) { p.told = append(p.told, change) }

// A node with many rows tells of those alone that change.
func TestOnlyChangesGoThrough(t *testing.T) {
	for text, want := range map[string]string{
		"all docs":                          "; +1 3 'a'",
		"keep lt 1 5 all docs":              "; +1 3 'a'",
		"keep eq 2 'b' all docs":            "",
		"pick 2 all docs":                   "; +1 'a'",
		"both all team all team":            "",
		"count 2 all docs":                  "; -1 'a' 31; +1 'a' 32",
		"sum 1 - all docs":                  "; -1 465; +1 468",
		"join 1 1 all docs pick 1 all docs": "; +3 3 'a' 3",
	} {
		g := New(home(t), true)
		for i := range 31 {
			g.Change(docs, doc(int64(i), "a"), 1)
		}
		p := &probe{}
		g.node(api.Root, read(t, text)).addUse(use{who: api.Root, by: p})
		g.Change(docs, doc(3, "a"), 1)
		sum, told := rows.Bag{}, 0
		for _, change := range p.told {
			sum.AddAll(change)
			told += len(change)
		}
		if sum.Text() != want || told > 4 {
			t.Errorf("%q: told of %d rows in all: %q, want %q", text, told, sum.Text(), want)
		}
	}
}

// meeting is a user that is done only when another one is told too.
type meeting struct {
	own, other chan int
	met        bool
}

func (m *meeting) change(int, rows.Bag) {
	close(m.own)
	select {
	case <-m.other:
		m.met = true
	case <-time.After(10 * time.Second):
	}
}

func TestEachOneHasAGoroutine(t *testing.T) {
	g := New(home(t), true)
	a, b := make(chan int), make(chan int)
	first, second := &meeting{own: a, other: b}, &meeting{own: b, other: a}
	g.tables[docs].addUse(use{who: "ann", by: first})
	g.tables[docs].addUse(use{who: "bob", by: second})
	g.Change(docs, doc(1, "a"), 1)
	if !first.met || !second.met {
		t.Error("one's views wait for another's")
	}
}

// Probes of one person write to one list without a lock: the race detector tells if they do so side by side.
func TestOneGoroutineForAllViewsOfOne(t *testing.T) {
	g := New(home(t), true)
	p := &probe{}
	for i := range 100 {
		g.tables[docs].addUse(use{who: "ann", by: p, part: i})
	}
	g.Change(docs, doc(1, "a"), 1)
	if len(p.told) != 100 {
		t.Errorf("told %d times", len(p.told))
	}
}

func TestAllGoroutinesHaveEnded(t *testing.T) {
	g := New(home(t), true)
	for i := range 8 {
		g.View("who"+strconv.Itoa(i), read(t, "count - all docs"))
	}
	before := runtime.NumGoroutine()
	for range 100 {
		g.Change(docs, doc(1, "a"), 1)
		g.Change(docs, doc(1, "a"), -1)
	}
	// One that has told that it is done may need a moment until it is gone.
	for wait := 0; runtime.NumGoroutine() > before && wait < 1000; wait++ {
		time.Sleep(time.Millisecond)
	}
	if after := runtime.NumGoroutine(); after > before {
		t.Errorf("%d goroutines, %d before", after, before)
	}
}

func TestNodes(t *testing.T) {
	for _, share := range []bool{true, false} {
		g := New(home(t), share)
		if g.node(api.Root, read(t, "all docs")) != node(g.tables[docs]) {
			t.Error("root's table is not the table itself")
		}
		if g.node("ann", read(t, "all docs")) == node(g.tables[docs]) {
			t.Error("one who is not root has the table itself")
		}
		for _, text := range []string{"all docs", "keep any all docs", "join 1 1 all docs all docs"} {
			if same := g.node("ann", read(t, text)) == g.node("ann", read(t, text)); same != share {
				t.Errorf("%q has one node: %v", text, same)
			}
			if g.node("ann", read(t, text)) == g.node("bob", read(t, text)) {
				t.Errorf("%q: two have one node", text)
			}
		}
	}
}

func TestEndedViewsLeaveNothing(t *testing.T) {
	texts := []string{"all docs", "keep any all docs", "join 2 1 keep any all docs all team", "both all docs all docs", "count 1 sum 1 2 join 1 1 all docs pick 1 all docs", "all docs"}
	for _, share := range []bool{true, false} {
		g := New(home(t), share)
		g.Rule(law(t, "allow docs in 2 team 1 2"))
		var views []*View
		for _, text := range texts {
			views = append(views, g.View(api.Root, read(t, text)), g.View("ann", read(t, text)))
		}
		uses := len(g.tables[docs].uses)
		for i, view := range views {
			if g.tables[docs].unused() {
				t.Errorf("view %d and those behind it are not told of changes any more", i)
			}
			view.End()
			g.Change(docs, doc(int64(i), "a"), 1)
			if len(g.tables[docs].uses) >= uses && !share {
				t.Errorf("view %d is told of changes still", i)
			}
			uses = len(g.tables[docs].uses)
		}
		if !g.tables[docs].unused() || !g.tables[team].unused() || g.Nodes() != 2 {
			t.Errorf("uses are left: %d, %d, of %d nodes", len(g.tables[docs].uses), len(g.tables[team].uses), g.Nodes())
		}
	}
}

func TestANodeStaysWhileOneUsesIt(t *testing.T) {
	g := New(home(t), true)
	n := g.node(api.Root, read(t, "keep any pick 1 all docs"))
	first, second := &probe{}, &probe{}
	n.addUse(use{who: api.Root, by: first})
	n.addUse(use{who: api.Root, by: second})
	n.addUse(use{who: api.Root, by: second, part: 1})
	g.release(n, first, 0)
	g.release(n, second, 1)
	g.Change(docs, doc(1, "a"), 1)
	if len(first.told) != 0 || len(second.told) != 1 {
		t.Errorf("told %d and %d times", len(first.told), len(second.told))
	}
	g.release(n, second, 0)
	if !g.tables[docs].unused() || g.Nodes() != 2 {
		t.Errorf("the table is used still, or %d nodes are left", g.Nodes())
	}
}

// What a join and a group no longer need is not kept either.
func TestEmptyTablesLeaveNothing(t *testing.T) {
	g := New(home(t), true)
	joined := g.node(api.Root, read(t, "join 2 1 all docs all team")).(*join)
	counted := g.node(api.Root, read(t, "count 1 all docs")).(*count)
	summed := g.node(api.Root, read(t, "sum 1 2 all docs")).(*sum)
	for _, times := range []int64{1, 1, -1, -1} {
		g.Change(docs, doc(0, "a"), times)
		g.Change(team, pair("a", "ann"), times)
	}
	if len(joined.sides[0])+len(joined.sides[1])+len(counted.groups)+len(summed.groups) > 0 {
		t.Errorf("left: %v, %v, %v", joined.sides, counted.groups, summed.groups)
	}
	for _, n := range []node{g.tables[docs], g.tables[team], joined, counted, summed} {
		if len(n.held()) > 0 {
			t.Errorf("held: %v", n.held())
		}
	}
}

func TestWhatWasToldIsNotToldAgain(t *testing.T) {
	g := New(home(t), true)
	g.Change(docs, doc(1, "a"), 1)
	v := g.View(api.Root, read(t, "all docs"))
	want := func(changed bool, text string) {
		t.Helper()
		if v.Changed() != changed {
			t.Errorf("changed: %v", v.Changed())
		}
		if got := v.Change(); got != text {
			t.Errorf("%q, want %q", got, text)
		}
	}
	want(false, "")
	g.Change(docs, doc(2, "b"), 2)
	g.Change(docs, doc(1, "a"), -1)
	want(true, "; -1 1 'a'; +2 2 'b'")
	want(false, "")
	g.Change(docs, doc(2, "b"), -1)
	if got := v.Rows(); got != "; +1 2 'b'" {
		t.Errorf("%q", got)
	}
	want(false, "")
	g.Change(docs, doc(3, "c"), 1)
	g.Change(docs, doc(3, "c"), -1)
	want(false, "")
}

func TestTables(t *testing.T) {
	g := New(home(t), true)
	g.Change(docs, doc(1, "a"), 1)
	g.Change(docs, doc(1, "a"), 1)
	g.Change(docs, doc(2, "a"), 1)
	if g.Size(docs) != 3 || g.Size(team) != 0 {
		t.Errorf("sizes %d and %d", g.Size(docs), g.Size(team))
	}
	if g.Times(docs, doc(1, "a")) != 2 || g.Times(docs, doc(3, "a")) != 0 {
		t.Errorf("times %d and %d", g.Times(docs, doc(1, "a")), g.Times(docs, doc(3, "a")))
	}
}

// What a view has become by changes is what it would be if it were asked for now.
func TestChangesComeToWhatAViewIs(t *testing.T) {
	texts := []string{
		"all docs",
		"keep and not eq 2 'a' lt 1 2 all docs",
		"keep or eq 2 me same 1 1 all docs",
		"pick 2,2 both all docs all docs",
		"join 1 1 all docs all docs",
		"join 2 1 all docs join 2 2 all team all team",
		"count 2 join 2 1 all docs all team",
		"sum 1 2 join 2 2 all docs all docs",
		"count 2 count 1 all docs",
		"sum 2 - sum 1 2 both all docs all docs",
		"join 2 2 count 2 all docs count 1 both pick 2 all docs pick 1 all team",
		"join 1 1 count - all docs sum 1 - all docs",
	}
	random := rand.New(rand.NewSource(1))
	g := New(home(t), false)
	var views []*View
	for _, text := range texts {
		views = append(views, g.View(api.Root, read(t, text)))
	}
	letter := func() string { return string(rune('a' + random.Intn(3))) }
	for range 300 {
		table, row := docs, doc(int64(random.Intn(4)-1), letter())
		if random.Intn(2) == 0 {
			table, row = team, pair(letter(), letter())
		}
		times := int64(1)
		if g.Times(table, row) > 0 && random.Intn(2) == 0 {
			times = -1
		}
		g.Change(table, row, times)
		for i, text := range texts {
			fresh := g.View(api.Root, read(t, text))
			if got, want := views[i].Rows(), fresh.Rows(); got != want {
				t.Fatalf("%q: %q, want %q", text, got, want)
			}
			fresh.End()
		}
	}
}
