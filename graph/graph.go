// Package graph keeps tables, and views over them as graphs of nodes through which the changes of the tables go.
package graph

import (
	"slices"

	"veil/api"
	"veil/rows"
	"veil/syntax"
)

// Graph has the nodes of the tables, and those of the views, which stand over them.
type Graph struct {
	tables []*table
	law    syntax.Law
	share  bool
	made   []made
}

// made is a node that was made for a part of a view.
type made struct {
	who   string
	words string
	node  node
}

// New makes a graph with empty tables, and without rules.
func New(schema syntax.Schema, share bool) *Graph {
	g := &Graph{law: make(syntax.Law, len(schema)), share: share}
	for range schema {
		g.tables = append(g.tables, &table{newCommon()})
	}
	return g
}

// Times tells how many times a table has a row.
func (g *Graph) Times(table int, row rows.Row) int64 { return g.tables[table].held()[row] }

// Size tells how many rows a table has, each as often as it is there.
func (g *Graph) Size(table int) int64 { return g.tables[table].held().Size() }

// Nodes tells how many nodes there are.
func (g *Graph) Nodes() int { return len(g.tables) + len(g.made) }

// Change lays a row to a table so many times, and brings all views up to date.
func (g *Graph) Change(table int, row rows.Row, times int64) {
	g.tables[table].change(0, rows.Bag{row: times})
}

// Rule makes a law the one that holds, and brings all views up to date. Who looks at which table is told to the tables ahead of that, as all have these together.
func (g *Graph) Rule(law syntax.Law) {
	g.law = law
	each := map[string][]node{}
	for _, m := range g.made {
		if m.node.takeLaw(law, g.tables) {
			each[m.who] = append(each[m.who], m.node)
		}
	}
	besideOthers(each, node.workOut)
}

// View makes a view of someone.
func (g *Graph) View(who string, view *syntax.View) *View {
	v := &View{graph: g, top: g.node(who, view), changed: rows.Bag{}}
	v.top.addUse(use{who: who, by: v})
	return v
}

// node is the node of a part of a view of someone. Root sees the tables themselves.
func (g *Graph) node(who string, view *syntax.View) node {
	if view.Operator == syntax.All && who == api.Root {
		return g.tables[view.Table]
	}
	if n := g.find(who, view.Words); n != nil {
		return n
	}
	n := g.newNode(who, view)
	g.made = append(g.made, made{who: who, words: view.Words, node: n})
	connect(who, n)
	if n.takeLaw(g.law, g.tables) {
		n.workOut()
	}
	return n
}

// find is the node that one has already for a part of these words, or nil if there is none, or none may be shared.
func (g *Graph) find(who, words string) node {
	for _, m := range g.made {
		if g.share && m.who == who && m.words == words {
			return m.node
		}
	}
	return nil
}

// newNode makes a node, over the nodes of the view's parts.
func (g *Graph) newNode(who string, view *syntax.View) node {
	if view.Operator == syntax.All {
		return newSeen(who, newCommon(g.tables[view.Table]), view.Table)
	}
	var parts []node
	for _, part := range view.Parts {
		parts = append(parts, g.node(who, part))
	}
	return newOperator(who, view, newCommon(parts...))
}

// release takes a use from a node. A node that nobody uses any more goes, and lets its own parts go; tables stay.
func (g *Graph) release(n node, by user, part int) {
	n.dropUse(by, part)
	if !n.unused() {
		return
	}
	g.made = slices.DeleteFunc(g.made, func(m made) bool { return m.node == n })
	for i, over := range n.over() {
		g.release(over, n, i)
	}
}
