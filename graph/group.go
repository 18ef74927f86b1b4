package graph

import "veil/rows"

// group is how many rows come together, and what they are told as. What they are told as may be 0 while there are some.
type group struct {
	size  int64
	total int64
}

// groups are groups of rows by what they have in common.
type groups map[rows.Row]group

// add lays rows to a group, and to a change that the group's row is another then.
func (g groups) add(change rows.Bag, key rows.Row, more group) {
	old := g[key]
	if old.size != 0 {
		change.Add(key+rows.Number(old.total), -1)
	}
	now := group{size: old.size + more.size, total: old.total + more.total}
	if now.size == 0 {
		delete(g, key)
		return
	}
	g[key] = now
	change.Add(key+rows.Number(now.total), 1)
}

type count struct {
	common
	columns []int
	groups  groups
}

func (n *count) change(_ int, change rows.Bag) {
	counted := rows.Bag{}
	for row, times := range change {
		n.groups.add(counted, row.Pick(n.columns), group{size: times, total: times})
	}
	n.pass(counted)
}

type sum struct {
	common
	columns []int
	summed  int
	groups  groups
}

func (n *sum) change(_ int, change rows.Bag) {
	summed := rows.Bag{}
	for row, times := range change {
		number := row.Columns()[n.summed].Number()
		n.groups.add(summed, row.Pick(n.columns), group{size: times, total: times * number})
	}
	n.pass(summed)
}
