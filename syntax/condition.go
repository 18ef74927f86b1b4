package syntax

// Test is what a condition asks of a row.
type Test int

const (
	Any Test = iota
	Equal
	Less
	Same
	Not
	And
	Or
	In
)

// Condition is a condition on rows, as it was read.
type Condition struct {
	Test   Test
	Column int          // Equal, Less, Same, In
	Value  Value        // Equal, Less
	Me     bool         // Equal: the name of who asks stands in place of the value
	Other  int          // Same: the second column
	Table  int          // In: its place in the schema
	Match  int          // In: the table's column that has what the row has
	Who    int          // In: the table's column that has the name of who asks
	Parts  []*Condition // Not, And, Or
	place  int          // the number of its first word
}

// condition reads a condition. Whether it fits the rows can only be told when their types are known, which in a view stand behind it: see fit.
func (r *reader) condition() (*Condition, error) {
	place := r.place()
	c, err := r.test()
	if err != nil {
		return nil, &Place{Part: "condition at word", Number: place, Err: err}
	}
	c.place = place
	return c, nil
}

func (r *reader) test() (*Condition, error) {
	switch r.word() {
	case "any":
		return &Condition{Test: Any}, nil
	case "eq":
		return r.equal()
	case "lt":
		return r.less()
	case "same":
		return r.same()
	case "not":
		return r.combined(Not, 1)
	case "and":
		return r.combined(And, 2)
	case "or":
		return r.combined(Or, 2)
	case "in":
		return r.in()
	}
	return nil, r.wrong("no condition")
}

func (r *reader) equal() (*Condition, error) {
	column, err := r.column()
	if err != nil {
		return nil, err
	}
	value, me, err := r.valueOrMe()
	if err != nil {
		return nil, err
	}
	return &Condition{Test: Equal, Column: column, Value: value, Me: me}, nil
}

func (r *reader) valueOrMe() (Value, bool, error) {
	word := r.word()
	if word == "me" {
		return Value{Type: Text}, true, nil
	}
	value, err := r.value(word)
	return value, false, err
}

func (r *reader) less() (*Condition, error) {
	column, err := r.column()
	if err != nil {
		return nil, err
	}
	value, err := r.value(r.word())
	if err != nil {
		return nil, err
	}
	if value.Type != Int {
		return nil, r.wrong("no number")
	}
	return &Condition{Test: Less, Column: column, Value: value}, nil
}

func (r *reader) same() (*Condition, error) {
	column, other, err := r.twoColumns()
	if err != nil {
		return nil, err
	}
	return &Condition{Test: Same, Column: column, Other: other}, nil
}

func (r *reader) combined(test Test, parts int) (*Condition, error) {
	c := &Condition{Test: test}
	for range parts {
		part, err := r.condition()
		if err != nil {
			return nil, err
		}
		c.Parts = append(c.Parts, part)
	}
	return c, nil
}

func (r *reader) in() (*Condition, error) {
	if !r.inRule {
		return nil, r.wrong("stands in rules alone")
	}
	column, err := r.column()
	if err != nil {
		return nil, err
	}
	table, err := r.table()
	if err != nil {
		return nil, err
	}
	match, who, err := r.twoColumns()
	if err != nil {
		return nil, err
	}
	return &Condition{Test: In, Column: column, Table: table, Match: match, Who: who}, nil
}

// fit refuses a condition that asks for columns, or types of them, that rows of these types do not have.
func (r *reader) fit(c *Condition, types []Type) error {
	err := r.fitParts(c, types)
	if err == nil && !r.fits(c, types) {
		err = r.fault("no such columns, or of another type")
	}
	if err != nil {
		return &Place{Part: "condition at word", Number: c.place, Err: err}
	}
	return nil
}

func (r *reader) fitParts(c *Condition, types []Type) error {
	for _, part := range c.Parts {
		if err := r.fit(part, types); err != nil {
			return err
		}
	}
	return nil
}

func (r *reader) fits(c *Condition, types []Type) bool {
	switch c.Test {
	case Equal, Less:
		return typeAt(types, c.Column) == c.Value.Type
	case Same:
		return alike(types, c.Column, types, c.Other)
	case In:
		looked := r.schema[c.Table].Types
		return alike(types, c.Column, looked, c.Match) && typeAt(looked, c.Who) == Text
	}
	return true
}
