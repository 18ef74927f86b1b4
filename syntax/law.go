package syntax

import (
	"strings"

	"veil/api"
)

// Allow lets one see the rows of a table for which the condition holds.
type Allow struct {
	Table     int
	Condition *Condition
}

// Mask shows a value in place of a column's own, but where the condition holds.
type Mask struct {
	Table     int
	Column    int
	Value     Value
	Condition *Condition
}

// Law is rules, as they were read.
type Law struct {
	Allows []Allow
	Masks  []Mask
}

// ReadLaw reads rules for the schema's tables. Rules of too many words are refused ahead of being taken apart, as a text may be of any size.
func ReadLaw(schema Schema, text string) (*Law, error) {
	law := &Law{}
	if text == "" {
		return law, nil
	}
	if strings.Count(text, " ")+strings.Count(text, ";") >= api.MaxWords {
		return nil, &Fault{Errno: api.ErrLaw, What: "too many words"}
	}
	for i, rule := range strings.Split(text, ";") {
		r := &reader{schema: schema, words: strings.Split(rule, " "), errno: api.ErrLaw, inRule: true}
		if err := r.rule(law); err != nil {
			return nil, &Place{Part: "rule", Number: i + 1, Err: err}
		}
	}
	return law, nil
}

// rule reads one rule and lays it to the others.
func (r *reader) rule(law *Law) error {
	switch r.word() {
	case "allow":
		return r.allow(law)
	case "mask":
		return r.mask(law)
	}
	return r.wrong("no rule")
}

func (r *reader) allow(law *Law) error {
	table, err := r.table()
	if err != nil {
		return err
	}
	condition, err := r.lastCondition(table)
	if err != nil {
		return err
	}
	law.Allows = append(law.Allows, Allow{Table: table, Condition: condition})
	return nil
}

func (r *reader) mask(law *Law) error {
	table, err := r.table()
	if err != nil {
		return err
	}
	column, err := r.column()
	if err != nil {
		return err
	}
	value, err := r.value(r.word())
	if err != nil {
		return err
	}
	if typeAt(r.schema[table].Types, column) != value.Type {
		return r.fault("no such column, or of another type")
	}
	if law.masked(table, column) {
		return r.fault("the column has a mask already")
	}
	condition, err := r.lastCondition(table)
	if err != nil {
		return err
	}
	law.Masks = append(law.Masks, Mask{Table: table, Column: column, Value: value, Condition: condition})
	return nil
}

// lastCondition reads the condition on a table's rows with which a rule ends.
func (r *reader) lastCondition(table int) (*Condition, error) {
	condition, err := r.condition()
	if err != nil {
		return nil, err
	}
	if err := r.fit(condition, r.schema[table].Types); err != nil {
		return nil, err
	}
	return condition, r.end()
}

func (l *Law) masked(table, column int) bool {
	for _, mask := range l.Masks {
		if mask.Table == table && mask.Column == column {
			return true
		}
	}
	return false
}
