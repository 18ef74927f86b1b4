package graph

import (
	"veil/rows"
	"veil/syntax"
)

// newOperator makes the node of a view's operator, which is another than `all`.
func newOperator(who string, view *syntax.View, own common) node {
	switch view.Operator {
	case syntax.Keep:
		return &keep{common: own, condition: view.Condition, asker: newAsker(who)}
	case syntax.Pick:
		return &pick{common: own, columns: view.Columns}
	case syntax.Join:
		return newJoin(own, view.Columns)
	case syntax.Both:
		return &both{common: own}
	case syntax.Count:
		return &count{common: own, columns: view.Columns, groups: groups{}}
	}
	return &sum{common: own, columns: view.Columns, summed: view.Summed, groups: groups{}}
}

type keep struct {
	common
	condition *syntax.Condition
	asker     asker
}

func (n *keep) change(_ int, change rows.Bag) {
	kept := rows.Bag{}
	for row, times := range change {
		if n.asker.holds(n.condition, row.Columns()) {
			kept.Add(row, times)
		}
	}
	n.pass(kept)
}

type pick struct {
	common
	columns []int
}

func (n *pick) change(_ int, change rows.Bag) {
	picked := rows.Bag{}
	for row, times := range change {
		picked.Add(row.Pick(n.columns), times)
	}
	n.pass(picked)
}

type both struct{ common }

func (n *both) change(_ int, change rows.Bag) { n.pass(change) }
