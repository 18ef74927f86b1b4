package rows

import (
	"cmp"
	"math"
	"math/rand"
	"slices"
	"testing"

	"veil/syntax"
)

var numbers = []int64{math.MinInt64, math.MinInt64 + 1, -1000000000000000, -256, -255, -1, 0, 1, 9, 10, 255, 256, 65536, 1000000000000000, math.MaxInt64 - 1, math.MaxInt64}

var texts = []string{"", "0", "00", "9", "_", "__", "_a", "a", "a0", "a_", "aa", "ab", "abcdefghijkl", "b", "z", "zz"}

func number(n int64) syntax.Value { return syntax.Value{Type: syntax.Int, Number: n} }

func text(s string) syntax.Value { return syntax.Value{Type: syntax.Text, Text: s} }

func TestOneColumnIsInOrder(t *testing.T) {
	for i, n := range numbers {
		for k, m := range numbers {
			if cmp.Compare(Number(n), Number(m)) != cmp.Compare(i, k) {
				t.Errorf("%d and %d are in a wrong order", n, m)
			}
		}
	}
	for i, s := range texts {
		for k, u := range texts {
			if cmp.Compare(Text(s), Text(u)) != cmp.Compare(i, k) {
				t.Errorf("%q and %q are in a wrong order", s, u)
			}
		}
	}
}

func randomValues(random *rand.Rand, types string) []syntax.Value {
	values := []syntax.Value{}
	for _, kind := range types {
		if kind == 'n' {
			values = append(values, number(numbers[random.Intn(len(numbers))]))
		} else {
			values = append(values, text(texts[random.Intn(len(texts))]))
		}
	}
	return values
}

// compared compares rows value by value.
func compared(a, b []syntax.Value) int {
	return slices.CompareFunc(a, b, func(v, w syntax.Value) int {
		return cmp.Or(cmp.Compare(v.Number, w.Number), cmp.Compare(v.Text, w.Text))
	})
}

func TestRowsAreInOrder(t *testing.T) {
	random := rand.New(rand.NewSource(1))
	for range 20000 {
		types := []string{"", "n", "t", "nt", "tn", "tt", "nn", "tnt", "ntntntntn"}[random.Intn(9)]
		a, b := randomValues(random, types), randomValues(random, types)
		if len(a) > 0 && random.Intn(2) == 0 {
			copy(b, a[:random.Intn(len(a))])
		}
		if got, want := cmp.Compare(Of(a...), Of(b...)), compared(a, b); got != want {
			t.Fatalf("%v and %v: %d, want %d", a, b, got, want)
		}
	}
}

func TestColumns(t *testing.T) {
	random := rand.New(rand.NewSource(2))
	for range 5000 {
		values := randomValues(random, []string{"", "n", "t", "ntt", "tntnn"}[random.Intn(5)])
		columns := Of(values...).Columns()
		if len(columns) != len(values) {
			t.Fatalf("%v has %d columns", values, len(columns))
		}
		for i, value := range values {
			if columns[i] != Of(value) {
				t.Fatalf("column %d of %v is %q", i, values, columns[i])
			}
			if value.Type == syntax.Int && columns[i].Number() != value.Number {
				t.Fatalf("the number of %d is %d", value.Number, columns[i].Number())
			}
		}
	}
}

func TestPick(t *testing.T) {
	row := Of(number(-5), text(""), text("ab"), number(7))
	for _, c := range []struct {
		columns []int
		want    Row
	}{
		{nil, ""},
		{[]int{0}, Number(-5)},
		{[]int{1}, Text("")},
		{[]int{3, 2, 3}, Of(number(7), text("ab"), number(7))},
		{[]int{0, 1, 2, 3}, row},
	} {
		if got := row.Pick(c.columns); got != c.want {
			t.Errorf("Pick(%v) = %q, want %q", c.columns, got, c.want)
		}
	}
}

func TestAdd(t *testing.T) {
	bag := Bag{}
	bag.Add("a", 2)
	bag.Add("a", 1)
	bag.Add("b", -1)
	bag.Add("c", 0)
	bag.AddAll(Bag{"a": -1, "b": 1, "d": 5})
	if len(bag) != 2 || bag["a"] != 2 || bag["d"] != 5 {
		t.Errorf("%v", bag)
	}
	if bag.Size() != 7 {
		t.Errorf("the size of %v is %d", bag, bag.Size())
	}
	bag.TakeAll(Bag{"a": 2, "b": 3, "d": -1})
	if len(bag) != 2 || bag["b"] != -3 || bag["d"] != 6 {
		t.Errorf("%v", bag)
	}
}

func TestJoined(t *testing.T) {
	row := Of(number(-5), text(""), text("ab"), number(7))
	if got := Joined(row.Columns()); got != row {
		t.Errorf("%q, want %q", got, row)
	}
	if got := Joined(nil); got != "" {
		t.Errorf("%q", got)
	}
}

func TestText(t *testing.T) {
	for _, c := range []struct {
		bag  Bag
		want string
	}{
		{Bag{}, ""},
		{Bag{"": 3}, "; +3"},
		{Bag{"": -3}, "; -3"},
		{Bag{Of(number(6), text("")): 2, Of(number(5), text("x")): 1}, "; +1 5 'x'; +2 6 ''"},
		{Bag{Number(-4): 1, Number(1): -1, Number(-10): -12}, "; -12 -10; +1 -4; -1 1"},
		{Bag{Text("b"): 1, Text("a_0"): 1, Text("a"): math.MaxInt64}, "; +9223372036854775807 'a'; +1 'a_0'; +1 'b'"},
		{Bag{Number(math.MinInt64): 1, Number(math.MaxInt64): 1}, "; +1 -9223372036854775808; +1 9223372036854775807"},
	} {
		if got := c.bag.Text(); got != c.want {
			t.Errorf("%q, want %q", got, c.want)
		}
	}
}
