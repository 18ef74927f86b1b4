package syntax

import (
	"slices"
	"strings"

	"veil/api"
)

// Mask shows a value in place of a column's own, but where the condition holds.
type Mask struct {
	Column    int
	Value     Value
	Condition *Condition
}

// Rules are those of one table, as they were read.
type Rules struct {
	Words  string       // of all of them: where these are the same the rules are
	Allows []*Condition // a row may be seen for which one of them holds
	Masks  []Mask
}

// Law is the rules of each table, in the schema's order.
type Law []Rules

// ReadLaw reads rules for the schema's tables. Rules of too many words are refused ahead of being taken apart, as a text may be of any size.
func ReadLaw(schema Schema, text string) (Law, error) {
	law := make(Law, len(schema))
	if text == "" {
		return law, nil
	}
	if strings.Count(text, " ")+strings.Count(text, ";") >= api.MaxWords {
		return nil, lawFault("too many words")
	}
	for i, rule := range strings.Split(text, ";") {
		r := &reader{schema: schema, words: strings.Split(rule, " "), errno: api.ErrLaw, inRule: true}
		if err := r.rule(law); err != nil {
			return nil, &Place{Part: "rule", Number: i + 1, Err: err}
		}
	}
	return law, nil
}

func lawFault(what string) error {
	return &Fault{Errno: api.ErrLaw, What: what}
}

// rule reads one rule and lays it to the others of its table.
func (r *reader) rule(law Law) error {
	var read func(rules *Rules, types []Type) error
	switch r.word() {
	case "allow":
		read = r.allow
	case "mask":
		read = r.mask
	default:
		return r.wrong("no rule")
	}
	table, err := r.table()
	if err != nil {
		return err
	}
	law[table].Words += strings.Join(r.words, " ") + ";"
	return read(&law[table], r.schema[table].Types)
}

func (r *reader) allow(rules *Rules, types []Type) error {
	condition, err := r.lastCondition(types)
	if err != nil {
		return err
	}
	rules.Allows = append(rules.Allows, condition)
	return nil
}

func (r *reader) mask(rules *Rules, types []Type) error {
	column, err := r.column()
	if err != nil {
		return err
	}
	value, err := r.value(r.word())
	if err != nil {
		return err
	}
	if typeAt(types, column) != value.Type {
		return r.fault("no such column, or of another type")
	}
	if rules.masked(column) {
		return r.fault("the column has a mask already")
	}
	condition, err := r.lastCondition(types)
	if err != nil {
		return err
	}
	rules.Masks = append(rules.Masks, Mask{Column: column, Value: value, Condition: condition})
	return nil
}

// lastCondition reads the condition on rows of these types with which a rule ends.
func (r *reader) lastCondition(types []Type) (*Condition, error) {
	condition, err := r.condition()
	if err != nil {
		return nil, err
	}
	if err := r.fit(condition, types); err != nil {
		return nil, err
	}
	return condition, r.end()
}

func (r *Rules) masked(column int) bool {
	return slices.ContainsFunc(r.Masks, func(mask Mask) bool { return mask.Column == column })
}
