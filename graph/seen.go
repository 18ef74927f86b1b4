package graph

import (
	"slices"

	"veil/rows"
	"veil/syntax"
)

// seen is what one who is not root may see of a table. Its first part is the table itself, and those behind it are the tables that its looks look at.
type seen struct {
	common
	asker asker
	who   string
	table int
	rules syntax.Rules
	whole rows.Bag // the table's rows as they are, as far as they were told: where rules look at the table itself it has changed already when the look is told
}

func newSeen(who string, own common, table int) *seen {
	return &seen{common: own, asker: newAsker(who), who: who, table: table, whole: rows.Bag{}}
}

func (n *seen) change(part int, change rows.Bag) {
	if part > 0 {
		n.changeLook(n.asker.looks[part-1], change)
		return
	}
	n.whole.AddAll(change)
	n.pass(n.show(change))
}

// changeLook takes a change of a table that the rules look at in: those rows alone can be seen otherwise than before that have what is found more or less often.
func (n *seen) changeLook(l *look, change rows.Bag) {
	found := l.search(n.asker.name, change)
	some := n.lookedFor(l, found)
	before := n.show(some)
	l.found.AddAll(found)
	shown := n.show(some)
	shown.TakeAll(before)
	n.pass(shown)
}

// lookedFor are the table's rows for which one of these values is looked for.
func (n *seen) lookedFor(l *look, values rows.Bag) rows.Bag {
	some := rows.Bag{}
	for row, times := range n.whole {
		if l.looksFor(values, row.Columns()) {
			some.Add(row, times)
		}
	}
	return some
}

// show is what may be seen of some rows of the table.
func (n *seen) show(some rows.Bag) rows.Bag {
	shown := rows.Bag{}
	for row, times := range some {
		columns := row.Columns()
		if n.allows(columns) {
			shown.Add(n.mask(columns), times)
		}
	}
	return shown
}

func (n *seen) allows(columns []rows.Row) bool {
	return slices.ContainsFunc(n.rules.Allows, func(allow *syntax.Condition) bool { return n.asker.holds(allow, columns) })
}

// mask is a row of these columns with all masks on. They are laid on a copy, as the conditions look at the row as it is.
func (n *seen) mask(columns []rows.Row) rows.Row {
	masked := slices.Clone(columns)
	for _, mask := range n.rules.Masks {
		if !n.asker.holds(mask.Condition, columns) {
			masked[mask.Column] = rows.Of(mask.Value)
		}
	}
	return rows.Joined(masked)
}

// takeLaw lays the node over the tables that new rules look at, in place of those that the old ones did.
func (n *seen) takeLaw(law syntax.Law, tables []*table) bool {
	rules := law[n.table]
	if rules.Words == n.rules.Words {
		return false
	}
	for i := 1; i < len(n.parts); i++ {
		n.parts[i].dropUse(n, i)
	}
	n.rules, n.asker.looks, n.parts = rules, looksOf(rules), n.parts[:1]
	for i, l := range n.asker.looks {
		n.parts = append(n.parts, tables[l.table])
		n.parts[i+1].addUse(use{who: n.who, by: n, part: i + 1})
	}
	return true
}

func (n *seen) workOut() {
	for i, l := range n.asker.looks {
		l.found = l.search(n.asker.name, n.parts[i+1].held())
	}
	shown := n.show(n.whole)
	shown.TakeAll(n.held())
	n.pass(shown)
}
