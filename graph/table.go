package graph

import "veil/rows"

// table is a table itself, which all have together.
type table struct{ common }

// change takes a change of the table in. Nodes of one are never used by another, so that those of each one can be brought up to date beside the others'.
func (t *table) change(_ int, change rows.Bag) {
	t.bag.AddAll(change)
	besideOthers(t.usesOfEach(), func(u use) { u.by.change(u.part, change) })
}

func (t *table) usesOfEach() map[string][]use {
	each := map[string][]use{}
	for _, u := range t.uses {
		each[u.who] = append(each[u.who], u)
	}
	return each
}
