package graph

import "veil/rows"

// join keeps the rows of its parts by what they have in its columns: so it finds those that a row comes together with, and needs not ask the other part, which may have changed already.
type join struct {
	common
	columns []int
	sides   [2]map[rows.Row]rows.Bag
}

func newJoin(own common, columns []int) *join {
	sides := [2]map[rows.Row]rows.Bag{{}, {}}
	return &join{common: own, columns: columns, sides: sides}
}

func (n *join) change(part int, change rows.Bag) {
	joined := rows.Bag{}
	for row, times := range change {
		key := row.Columns()[n.columns[part]]
		for other, otherTimes := range n.sides[1-part][key] {
			joined.Add(lay(part, row, other), times*otherTimes)
		}
		n.keep(part, key, row, times)
	}
	n.pass(joined)
}

// lay lays a row of a part and one of the other part together, the first part's first.
func lay(part int, row, other rows.Row) rows.Row {
	if part == 0 {
		return row + other
	}
	return other + row
}

func (n *join) keep(part int, key, row rows.Row, times int64) {
	side := n.sides[part]
	if side[key] == nil {
		side[key] = rows.Bag{}
	}
	side[key].Add(row, times)
	if len(side[key]) == 0 {
		delete(side, key)
	}
}
