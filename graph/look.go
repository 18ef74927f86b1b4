package graph

import (
	"slices"

	"veil/rows"
	"veil/syntax"
)

// look is how rules look at a table for someone. All `in` that look at the same columns of it have one.
type look struct {
	table   int
	match   int      // the table's column of which is told what it has
	who     int      // the table's column that has the one's name
	columns []int    // those of the rows that the rules are for which are looked for
	found   rows.Bag // what there is to be found, and in how many rows
}

// looksOf are the looks that rules need.
func looksOf(rules syntax.Rules) []*look {
	var looks []*look
	for _, allow := range rules.Allows {
		looks = addLooks(looks, allow)
	}
	for _, mask := range rules.Masks {
		looks = addLooks(looks, mask.Condition)
	}
	return looks
}

func addLooks(looks []*look, c *syntax.Condition) []*look {
	for _, part := range c.Parts {
		looks = addLooks(looks, part)
	}
	if c.Test != syntax.In {
		return looks
	}
	l := findLook(looks, c)
	if l == nil {
		l = &look{table: c.Table, match: c.Match, who: c.Who, found: rows.Bag{}}
		looks = append(looks, l)
	}
	l.columns = append(l.columns, c.Column)
	return looks
}

// findLook is the look that an `in` needs, or nil.
func findLook(looks []*look, c *syntax.Condition) *look {
	for _, l := range looks {
		if l.table == c.Table && l.match == c.Match && l.who == c.Who {
			return l
		}
	}
	return nil
}

// search tells what there is to be found in some rows of the table.
func (l *look) search(name rows.Row, some rows.Bag) rows.Bag {
	found := rows.Bag{}
	for row, times := range some {
		columns := row.Columns()
		if columns[l.who] == name {
			found.Add(columns[l.match], times)
		}
	}
	return found
}

// finds tells whether a value is to be found.
func (l *look) finds(value rows.Row) bool { return l.found[value] > 0 }

// looksFor tells whether one of these values is looked for, for a row of these columns.
func (l *look) looksFor(values rows.Bag, columns []rows.Row) bool {
	return slices.ContainsFunc(l.columns, func(column int) bool {
		_, ok := values[columns[column]]
		return ok
	})
}
