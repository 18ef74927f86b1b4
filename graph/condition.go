package graph

import (
	"veil/rows"
	"veil/syntax"
)

// asker is who asks conditions of rows.
type asker struct {
	name  rows.Row
	looks []*look // for each `in` one, which stand in rules alone
}

func newAsker(who string) asker { return asker{name: rows.Text(who)} }

// holds tells whether a condition holds for a row of these columns.
func (a *asker) holds(c *syntax.Condition, columns []rows.Row) bool {
	switch c.Test {
	case syntax.Equal:
		return columns[c.Column] == a.wanted(c)
	case syntax.Less:
		return columns[c.Column] < rows.Of(c.Value)
	case syntax.Same:
		return columns[c.Column] == columns[c.Other]
	case syntax.Not:
		return !a.holds(c.Parts[0], columns)
	case syntax.And:
		return a.holds(c.Parts[0], columns) && a.holds(c.Parts[1], columns)
	case syntax.Or:
		return a.holds(c.Parts[0], columns) || a.holds(c.Parts[1], columns)
	case syntax.In:
		return findLook(a.looks, c).finds(columns[c.Column])
	}
	return true
}

// wanted is what a condition asks a column to be.
func (a *asker) wanted(c *syntax.Condition) rows.Row {
	if c.Me {
		return a.name
	}
	return rows.Of(c.Value)
}
