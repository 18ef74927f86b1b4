// Package rows has rows, written so that they can be held against each other as they stand, and bags of them.
package rows

import (
	"strconv"
	"strings"

	"veil/syntax"
)

const (
	numberMark  = 'n'
	numberBytes = 8
	textMark    = "t"
	textEnd     = "\x00"
)

// Row is the values of a row, one behind the other, each behind a mark that tells its type. They are written so that rows of the same types are in the order of their bytes. A column of a row is itself a row, and rows laid one behind the other are a row of the columns of all.
type Row string

// Of writes values as a row.
func Of(values ...syntax.Value) Row {
	row := Row("")
	for _, value := range values {
		if value.Type == syntax.Int {
			row += Number(value.Number)
		} else {
			row += Text(value.Text)
		}
	}
	return row
}

// Number is the row of one number. With its sign turned it is in order without one, and so by its bytes, the one first that counts most.
func Number(number int64) Row {
	bits := uint64(number) ^ 1<<63
	bytes := make([]byte, 0, 1+numberBytes)
	bytes = append(bytes, numberMark)
	for shift := 8 * (numberBytes - 1); shift >= 0; shift -= 8 {
		bytes = append(bytes, byte(bits>>shift))
	}
	return Row(bytes)
}

// Text is the row of one text. Its end is less than any byte of a text, so that a shorter one is ahead of a longer one that begins with it.
func Text(text string) Row {
	return Row(textMark + text + textEnd)
}

// Joined lays rows one behind the other.
func Joined(parts []Row) Row {
	joined := Row("")
	for _, part := range parts {
		joined += part
	}
	return joined
}

// Columns takes a row apart.
func (r Row) Columns() []Row {
	var columns []Row
	for r != "" {
		size := r.first()
		columns = append(columns, r[:size])
		r = r[size:]
	}
	return columns
}

// first is how many bytes the first column has.
func (r Row) first() int {
	if r[0] == numberMark {
		return 1 + numberBytes
	}
	return strings.Index(string(r), textEnd) + len(textEnd)
}

// Pick is the row of these columns of a row.
func (r Row) Pick(columns []int) Row {
	own := r.Columns()
	picked := Row("")
	for _, column := range columns {
		picked += own[column]
	}
	return picked
}

// Number is the number that a row of one number has.
func (r Row) Number() int64 {
	bits := uint64(0)
	for i := range numberBytes {
		bits = bits<<8 | uint64(r[1+i])
	}
	return int64(bits ^ 1<<63)
}

// words writes a row's values as words, a blank ahead of each.
func (r Row) words() string {
	var words strings.Builder
	for _, column := range r.Columns() {
		words.WriteByte(' ')
		words.WriteString(column.word())
	}
	return words.String()
}

// word writes a row of one value as a word.
func (r Row) word() string {
	if r[0] == numberMark {
		return strconv.FormatInt(r.Number(), 10)
	}
	return "'" + string(r[len(textMark):len(r)-len(textEnd)]) + "'"
}
