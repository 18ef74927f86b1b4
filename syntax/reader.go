package syntax

import (
	"strings"

	"veil/api"
)

// reader goes through the words of a view, or of one rule.
type reader struct {
	schema Schema
	words  []string
	taken  int
	errno  api.Errno // what a fault in these words is answered with
	inRule bool      // `in` stands in rules alone
}

func (r *reader) fault(what string) error {
	return &Fault{Errno: r.errno, What: what}
}

// place is the number of the word that comes next.
func (r *reader) place() int { return r.taken + 1 }

// word takes the next word. Behind the last one it is empty, which nothing may be: so who asks need not look whether there is one.
func (r *reader) word() string {
	r.taken++
	if r.taken > len(r.words) {
		return ""
	}
	return r.words[r.taken-1]
}

// end refuses words behind a whole.
func (r *reader) end() error {
	if r.taken < len(r.words) {
		return &Place{Part: "word", Number: r.place(), Err: r.fault("something behind the end")}
	}
	return nil
}

// wrong tells what is wrong with the word that was taken last.
func (r *reader) wrong(what string) error {
	return &Place{Part: "word", Number: r.taken, Err: r.fault(what)}
}

func (r *reader) table() (int, error) {
	table := r.schema.Find(r.word())
	if table < 0 {
		return 0, r.wrong("no such table")
	}
	return table, nil
}

// column reads a COL. Columns are numbered from 0 on where they are kept.
func (r *reader) column() (int, error) {
	column, ok := readColumn(r.word())
	if !ok {
		return 0, r.wrong("no column")
	}
	return column, nil
}

// twoColumns reads a COL and a COL.
func (r *reader) twoColumns() (int, int, error) {
	first, err := r.column()
	if err != nil {
		return 0, 0, err
	}
	second, err := r.column()
	return first, second, err
}

// columns reads COLS. Each of them is a column of the view that they stand in, so there are never more than api.MaxWidth.
func (r *reader) columns() ([]int, error) {
	word := r.word()
	if word == "-" {
		return nil, nil
	}
	if len(word) >= 2*api.MaxWidth {
		return nil, r.wrong("too many columns")
	}
	var columns []int
	for _, part := range strings.Split(word, ",") {
		column, ok := readColumn(part)
		if !ok {
			return nil, r.wrong("no columns")
		}
		columns = append(columns, column)
	}
	return columns, nil
}

func readColumn(word string) (int, bool) {
	if len(word) != 1 || word[0] < '1' || word[0] > '9' {
		return 0, false
	}
	return int(word[0] - '1'), true
}

func (r *reader) value(word string) (Value, error) {
	value, ok := readValue(word)
	if !ok {
		return Value{}, r.wrong("no value")
	}
	return value, nil
}

// typeAt is the type of a column, or NoType where there is none.
func typeAt(types []Type, column int) Type {
	if column >= len(types) {
		return NoType
	}
	return types[column]
}

// alike tells whether both columns are there and of one type.
func alike(types []Type, column int, others []Type, other int) bool {
	t := typeAt(types, column)
	return t != NoType && t == typeAt(others, other)
}
