package graph

import (
	"veil/rows"
	"veil/syntax"
)

// holds tells whether a condition of a view of who holds for a row of these columns.
func holds(c *syntax.Condition, who rows.Row, columns []rows.Row) bool {
	switch c.Test {
	case syntax.Equal:
		return columns[c.Column] == wanted(c, who)
	case syntax.Less:
		return columns[c.Column] < rows.Of(c.Value)
	case syntax.Same:
		return columns[c.Column] == columns[c.Other]
	case syntax.Not:
		return !holds(c.Parts[0], who, columns)
	case syntax.And:
		return holds(c.Parts[0], who, columns) && holds(c.Parts[1], who, columns)
	case syntax.Or:
		return holds(c.Parts[0], who, columns) || holds(c.Parts[1], who, columns)
	}
	return true
}

// wanted is what a condition asks a column to be.
func wanted(c *syntax.Condition, who rows.Row) rows.Row {
	if c.Me {
		return who
	}
	return rows.Of(c.Value)
}
