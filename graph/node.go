package graph

import (
	"slices"

	"veil/rows"
	"veil/syntax"
)

// user is who uses a node, and is told each change of what it holds.
type user interface {
	// change tells how the part of that number has changed. The change is not the user's: many are told of it, some at the same time.
	change(part int, change rows.Bag)
}

// node is a node of any kind.
type node interface {
	user
	held() rows.Bag
	over() []node
	addUse(u use)
	dropUse(by user, part int)
	unused() bool
	// takeLaw hands a new law over, and tells whether what the node holds is to be worked out anew.
	takeLaw(law syntax.Law, tables []*table) bool
	// workOut works out anew what the node holds, and tells all who use it how that has changed.
	workOut()
}

// use is one place at which a node is used.
type use struct {
	who  string // whose the user is
	by   user
	part int // which of the user's parts the node is
}

// common is what nodes of all kinds have.
type common struct {
	bag   rows.Bag // what it holds
	parts []node   // what it is over
	uses  []use    // who uses it
}

func newCommon(parts ...node) common {
	return common{bag: rows.Bag{}, parts: parts}
}

func (c *common) held() rows.Bag { return c.bag }

func (c *common) over() []node { return c.parts }

func (c *common) addUse(u use) { c.uses = append(c.uses, u) }

func (c *common) dropUse(by user, part int) {
	c.uses = slices.DeleteFunc(c.uses, func(u use) bool { return u.by == by && u.part == part })
}

func (c *common) unused() bool { return len(c.uses) == 0 }

// pass takes a change of what the node holds in, and tells all who use it.
func (c *common) pass(change rows.Bag) {
	if len(change) == 0 {
		return
	}
	c.bag.AddAll(change)
	for _, u := range c.uses {
		u.by.change(u.part, change)
	}
}

// takeLaw: rules are nothing to nodes of most kinds.
func (c *common) takeLaw(syntax.Law, []*table) bool { return false }

// workOut: nor is there anything to work out anew for them.
func (c *common) workOut() {}

// connect lays a new node over its parts. It holds nothing so far: all that they hold is a change for it.
func connect(who string, n node) {
	for i, part := range n.over() {
		n.change(i, part.held())
		part.addUse(use{who: who, by: n, part: i})
	}
}
