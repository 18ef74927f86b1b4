package rows

import (
	"maps"
	"slices"
	"strconv"
	"strings"
)

// Bag is rows, each so many times, or a change of a bag: rows, each so many times more or less. A row that is there no times is not in it.
type Bag map[Row]int64

// Add lays a row to a bag so many times.
func (b Bag) Add(row Row, times int64) {
	times += b[row]
	if times == 0 {
		delete(b, row)
		return
	}
	b[row] = times
}

// AddAll lays all rows of another bag to a bag.
func (b Bag) AddAll(other Bag) {
	for row, times := range other {
		b.Add(row, times)
	}
}

// TakeAll takes all rows of another bag from a bag.
func (b Bag) TakeAll(other Bag) {
	for row, times := range other {
		b.Add(row, -times)
	}
}

// Size is how many rows there are, each as often as it is there.
func (b Bag) Size() int64 {
	size := int64(0)
	for _, times := range b {
		size += times
	}
	return size
}

// Text writes a bag, by rising rows, as frames tell it.
func (b Bag) Text() string {
	var text strings.Builder
	for _, row := range slices.Sorted(maps.Keys(b)) {
		text.WriteString("; ")
		if b[row] > 0 {
			text.WriteByte('+')
		}
		text.WriteString(strconv.FormatInt(b[row], 10))
		text.WriteString(row.words())
	}
	return text.String()
}
