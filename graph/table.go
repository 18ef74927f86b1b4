package graph

import (
	"sync"

	"veil/rows"
)

// table is a table itself, which all have together.
type table struct{ common }

// change takes a change of the table in. Nodes of one are never used by another, so that those of each one can be brought up to date beside the others'.
func (t *table) change(_ int, change rows.Bag) {
	t.bag.AddAll(change)
	var group sync.WaitGroup
	for _, uses := range t.usesOfEach() {
		group.Go(func() { tell(uses, change) })
	}
	group.Wait()
}

func (t *table) usesOfEach() map[string][]use {
	each := map[string][]use{}
	for _, u := range t.uses {
		each[u.who] = append(each[u.who], u)
	}
	return each
}

// seen is what one who is not root may see of a table.
type seen struct{ common }

// change lets nothing through: without rules nothing may be seen.
func (n *seen) change(int, rows.Bag) {}
