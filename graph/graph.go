// Package graph keeps tables, and views over them as graphs of nodes through which the changes of the tables go.
package graph

import (
	"veil/api"
	"veil/rows"
	"veil/syntax"
)

// Graph has the nodes of the tables, over which those of the views stand.
type Graph struct{ tables []*table }

// New makes a graph with empty tables.
func New(schema syntax.Schema) *Graph {
	g := &Graph{}
	for range schema {
		g.tables = append(g.tables, &table{newCommon()})
	}
	return g
}

// Times tells how many times a table has a row.
func (g *Graph) Times(table int, row rows.Row) int64 { return g.tables[table].held()[row] }

// Size tells how many rows a table has, each as often as it is there.
func (g *Graph) Size(table int) int64 { return g.tables[table].held().Size() }

// Change lays a row to a table so many times, and brings all views up to date.
func (g *Graph) Change(table int, row rows.Row, times int64) {
	g.tables[table].change(0, rows.Bag{row: times})
}

// View makes a view of someone.
func (g *Graph) View(who string, view *syntax.View) *View {
	v := &View{top: g.node(who, view), changed: rows.Bag{}}
	v.top.addUse(use{who: who, by: v})
	return v
}

func (g *Graph) node(who string, view *syntax.View) node {
	if view.Operator == syntax.All {
		return all(who, g.tables[view.Table])
	}
	var parts []node
	for _, part := range view.Parts {
		parts = append(parts, g.node(who, part))
	}
	n := newNode(who, view, parts)
	connect(who, n)
	return n
}

// all is what someone may see of a table.
func all(who string, t *table) node {
	if who == api.Root {
		return t
	}
	n := &seen{newCommon(t)}
	connect(who, n)
	return n
}
