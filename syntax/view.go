package syntax

import (
	"slices"
	"strings"

	"veil/api"
)

// Operator is what a view does with what it is over.
type Operator int

const (
	All Operator = iota
	Keep
	Pick
	Join
	Both
	Count
	Sum
)

// View is a view, as it was read.
type View struct {
	Operator  Operator
	Table     int        // All: its place in the schema
	Condition *Condition // Keep
	Columns   []int      // Pick, Count, Sum; Join: the column of each of the two
	Summed    int        // Sum: the column that is summed
	Parts     []*View    // what it is over; All: none
	Types     []Type     // of its own columns
	Words     string     // its own, and those of what it is over
}

// ReadView reads a view of the schema's tables. One of too many words is refused ahead of being taken apart, as a text may be of any size.
func ReadView(schema Schema, text string) (*View, error) {
	r := &reader{schema: schema, errno: api.ErrView}
	if strings.Count(text, " ") >= api.MaxWords {
		return nil, r.fault("too many words")
	}
	r.words = strings.Split(text, " ")
	v, err := r.view()
	if err == nil {
		err = r.end()
	}
	if err != nil {
		return nil, err
	}
	return v, nil
}

func (r *reader) view() (*View, error) {
	place := r.place()
	v, err := r.operator()
	if err == nil && len(v.Types) > api.MaxWidth {
		err = r.fault("too many columns")
	}
	if err != nil {
		return nil, &Place{Part: "view at word", Number: place, Err: err}
	}
	v.Words = strings.Join(r.words[place-1:r.taken], " ")
	return v, nil
}

func (r *reader) operator() (*View, error) {
	switch r.word() {
	case "all":
		return r.all()
	case "keep":
		return r.keep()
	case "pick":
		return r.pick()
	case "join":
		return r.join()
	case "both":
		return r.both()
	case "count":
		return r.count()
	case "sum":
		return r.sum()
	}
	return nil, r.wrong("no view")
}

func (r *reader) all() (*View, error) {
	table, err := r.table()
	if err != nil {
		return nil, err
	}
	return &View{Operator: All, Table: table, Types: r.schema[table].Types}, nil
}

func (r *reader) keep() (*View, error) {
	condition, err := r.condition()
	if err != nil {
		return nil, err
	}
	over, err := r.view()
	if err != nil {
		return nil, err
	}
	if err := r.fit(condition, over.Types); err != nil {
		return nil, err
	}
	return &View{Operator: Keep, Condition: condition, Parts: []*View{over}, Types: over.Types}, nil
}

func (r *reader) pick() (*View, error) {
	columns, over, types, err := r.columnsOver()
	if err != nil {
		return nil, err
	}
	return &View{Operator: Pick, Columns: columns, Parts: []*View{over}, Types: types}, nil
}

// columnsOver reads COLS and the view whose columns they are, and finds their types.
func (r *reader) columnsOver() ([]int, *View, []Type, error) {
	columns, err := r.columns()
	if err != nil {
		return nil, nil, nil, err
	}
	over, err := r.view()
	if err != nil {
		return nil, nil, nil, err
	}
	types := make([]Type, len(columns))
	for i, column := range columns {
		types[i] = typeAt(over.Types, column)
	}
	if slices.Contains(types, NoType) {
		return nil, nil, nil, r.fault("no such column")
	}
	return columns, over, types, nil
}

func (r *reader) join() (*View, error) {
	first, second, err := r.twoColumns()
	if err != nil {
		return nil, err
	}
	left, right, err := r.twoViews()
	if err != nil {
		return nil, err
	}
	if !alike(left.Types, first, right.Types, second) {
		return nil, r.fault("no such columns, or not of one type")
	}
	types := slices.Concat(left.Types, right.Types)
	return &View{Operator: Join, Columns: []int{first, second}, Parts: []*View{left, right}, Types: types}, nil
}

func (r *reader) both() (*View, error) {
	left, right, err := r.twoViews()
	if err != nil {
		return nil, err
	}
	if !slices.Equal(left.Types, right.Types) {
		return nil, r.fault("views of other types")
	}
	return &View{Operator: Both, Parts: []*View{left, right}, Types: left.Types}, nil
}

func (r *reader) twoViews() (*View, *View, error) {
	left, err := r.view()
	if err != nil {
		return nil, nil, err
	}
	right, err := r.view()
	return left, right, err
}

func (r *reader) count() (*View, error) {
	columns, over, types, err := r.columnsOver()
	if err != nil {
		return nil, err
	}
	return &View{Operator: Count, Columns: columns, Parts: []*View{over}, Types: append(types, Int)}, nil
}

func (r *reader) sum() (*View, error) {
	summed, err := r.column()
	if err != nil {
		return nil, err
	}
	columns, over, types, err := r.columnsOver()
	if err != nil {
		return nil, err
	}
	if typeAt(over.Types, summed) != Int {
		return nil, r.fault("no column of numbers to sum")
	}
	return &View{Operator: Sum, Summed: summed, Columns: columns, Parts: []*View{over}, Types: append(types, Int)}, nil
}
