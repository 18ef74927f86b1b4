package graph

import "veil/rows"

// View is a view of someone, over the nodes of its operators.
type View struct {
	graph   *Graph
	top     node
	changed rows.Bag // since it was told last
}

// change lays changes together: one of a table may come by several ways.
func (v *View) change(_ int, change rows.Bag) { v.changed.AddAll(change) }

// Changed tells whether the view is another than when it was told last.
func (v *View) Changed() bool { return len(v.changed) > 0 }

// Rows tells the view's rows, as frames tell them.
func (v *View) Rows() string {
	v.changed = rows.Bag{}
	return v.top.held().Text()
}

// Change tells how the view is another than when it was told last, as frames tell it.
func (v *View) Change() string {
	told := v.changed
	v.changed = rows.Bag{}
	return told.Text()
}

// End lets the nodes go that only this view uses.
func (v *View) End() { v.graph.release(v.top, v, 0) }
