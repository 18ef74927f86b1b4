package veil

import (
	"math/rand"
	"regexp"
	"slices"
	"strings"
	"testing"

	"veil/api"
)

// The oracle reads words from the last to the first with a stack, where the program goes from the first to the last: a fault of the one is hardly one of the other.

// item is what stands on the stack: a bare word, a condition or a view.
type item struct {
	word  string
	fits  func(types []string) bool // of a condition
	types []string                  // of a view
	kind  byte                      // 'w', 'c', 'v'
}

var arity = map[string]string{
	"any": "", "eq": "ww", "lt": "ww", "same": "ww", "not": "c", "and": "cc", "or": "cc", "in": "wwww",
	"all": "w", "keep": "cv", "pick": "wv", "join": "wwvv", "both": "vv", "count": "wv", "sum": "wwv",
}

var tables = map[string][]string{"docs": {"int", "text"}, "team": {"text", "text"}}

var colsForm = regexp.MustCompile(`^(-|[1-9](,[1-9])*)$`)

var numberForm = regexp.MustCompile(`^(0|-?[1-9][0-9]{0,14}|-?1000000000000000)$`)

var textForm = regexp.MustCompile(`^'[a-z0-9_]{0,12}'$`)

func typeOfValue(word string) string {
	if numberForm.MatchString(word) {
		return "int"
	}
	if textForm.MatchString(word) {
		return "text"
	}
	return "no value"
}

// typeOf is the type of a column of one digit, or a word that is no type.
func typeOf(types []string, col string) string {
	if len(col) == 1 && col >= "1" && col <= "9" && int(col[0]-'1') < len(types) {
		return types[col[0]-'1']
	}
	return "no column " + col
}

func isType(t string) bool { return t == "int" || t == "text" }

func picked(types []string, cols string) ([]string, bool) {
	got := []string{}
	if !colsForm.MatchString(cols) {
		return nil, false
	}
	for _, col := range strings.Split(strings.TrimPrefix(cols, "-"), ",") {
		if col != "" {
			got = append(got, typeOf(types, col))
		}
	}
	return got, !slices.ContainsFunc(got, func(t string) bool { return !isType(t) })
}

func condition(op string, a []item, rules bool) item {
	fits := func(types []string) bool { return true }
	switch op {
	case "eq":
		fits = func(types []string) bool {
			t := typeOf(types, a[0].word)
			return t == typeOfValue(a[1].word) || t == "text" && a[1].word == "me"
		}
	case "lt":
		fits = func(types []string) bool {
			return typeOf(types, a[0].word) == "int" && typeOfValue(a[1].word) == "int"
		}
	case "same":
		fits = func(types []string) bool {
			t := typeOf(types, a[0].word)
			return isType(t) && t == typeOf(types, a[1].word)
		}
	case "not":
		fits = a[0].fits
	case "and", "or":
		fits = func(types []string) bool { return a[0].fits(types) && a[1].fits(types) }
	case "in":
		fits = func(types []string) bool {
			t, looked := typeOf(types, a[0].word), tables[a[1].word]
			return rules && isType(t) && t == typeOf(looked, a[2].word) && typeOf(looked, a[3].word) == "text"
		}
	}
	return item{kind: 'c', fits: fits}
}

func view(op string, a []item) (item, bool) {
	var types []string
	ok := true
	switch op {
	case "all":
		types, ok = tables[a[0].word]
	case "keep":
		types, ok = a[1].types, a[0].fits(a[1].types)
	case "pick":
		types, ok = picked(a[1].types, a[0].word)
	case "join":
		types = slices.Concat(a[2].types, a[3].types)
		t := typeOf(a[2].types, a[0].word)
		ok = isType(t) && t == typeOf(a[3].types, a[1].word)
	case "both":
		types, ok = a[0].types, slices.Equal(a[0].types, a[1].types)
	case "count":
		types, ok = picked(a[1].types, a[0].word)
		types = append(types, "int")
	case "sum":
		types, ok = picked(a[2].types, a[1].word)
		types = append(types, "int")
		ok = ok && typeOf(a[2].types, a[0].word) == "int"
	}
	return item{kind: 'v', types: types}, ok && len(types) <= 9
}

// reduce reads words into items, the first of them on top.
func reduce(words []string, rules bool) ([]item, bool) {
	var stack []item
	for _, word := range slices.Backward(words) {
		kinds, known := arity[word]
		if !known {
			stack = append(stack, item{kind: 'w', word: word})
			continue
		}
		var args []item
		for _, kind := range []byte(kinds) {
			if len(stack) == 0 || stack[len(stack)-1].kind != kind {
				return nil, false
			}
			args = append(args, stack[len(stack)-1])
			stack = stack[:len(stack)-1]
		}
		top, ok := condition(word, args, rules), true
		if strings.Contains(" all keep pick join both count sum ", " "+word+" ") {
			top, ok = view(word, args)
		}
		if !ok {
			return nil, false
		}
		stack = append(stack, top)
	}
	slices.Reverse(stack)
	return stack, true
}

func oracleCheck(text string) (string, api.Errno) {
	words := strings.Split(text, " ")
	stack, ok := reduce(words, false)
	if !ok || len(words) > 60 || len(stack) != 1 || stack[0].kind != 'v' {
		return "", api.ErrView
	}
	return strings.Join(stack[0].types, " "), api.OK
}

func oracleLaw(text string) api.Errno {
	if text == "" {
		return api.OK
	}
	if len(strings.FieldsFunc(text, func(r rune) bool { return r == ' ' || r == ';' })) > 60 {
		return api.ErrLaw
	}
	masked := map[string]int{}
	for _, rule := range strings.Split(text, ";") {
		if !oracleRule(rule, masked) {
			return api.ErrLaw
		}
	}
	return api.OK
}

func oracleRule(rule string, masked map[string]int) bool {
	stack, ok := reduce(strings.Split(rule, " "), true)
	if !ok || len(stack) < 3 || stack[len(stack)-1].kind != 'c' {
		return false
	}
	types, known := tables[stack[1].word]
	if !known || !stack[len(stack)-1].fits(types) {
		return false
	}
	if stack[0].word == "allow" {
		return len(stack) == 3
	}
	if stack[0].word != "mask" || len(stack) != 5 {
		return false
	}
	column := stack[1].word + stack[2].word
	masked[column]++
	return masked[column] == 1 && typeOf(types, stack[2].word) == typeOfValue(stack[3].word)
}

// maker makes texts that are often right and often a little wrong.
type maker struct{ *rand.Rand }

func (m maker) one(words ...string) string { return words[m.Intn(len(words))] }

func (m maker) col() string {
	if m.Intn(10) > 0 {
		return m.one("1", "2")
	}
	return m.one("3", "4", "9", "0", "-")
}

func (m maker) cols() string {
	if m.Intn(4) == 0 {
		return m.one("-", "-", "-", "1,1,1,1,1,1,1,1", "1,1,1,1,1,1,1,1,1", "1,", ",2")
	}
	cols := []string{}
	for range 1 + m.Intn(3) {
		cols = append(cols, m.one("1", "1", "2", "2", "3"))
	}
	return strings.Join(cols, ",")
}

func (m maker) value() string {
	return m.one("0", "5", "-7", "1000000000000000", "'x'", "''", "'a_1'", "me", "me", "-0", "'X'", "1000000000000001")
}

func (m maker) table() string {
	if m.Intn(20) > 0 {
		return m.one("docs", "team")
	}
	return "x"
}

func (m maker) condition(depth int) string {
	if depth > 0 && m.Intn(2) == 0 {
		switch m.Intn(3) {
		case 0:
			return "not " + m.condition(depth-1)
		default:
			return m.one("and ", "or ") + m.condition(depth-1) + " " + m.condition(depth-1)
		}
	}
	switch m.Intn(6) {
	case 0:
		return "eq 1 " + m.value()
	case 1:
		return "eq 2 " + m.value()
	case 2:
		return "lt " + m.col() + " " + m.value()
	case 3:
		return "same " + m.col() + " " + m.col()
	case 4:
		return "in " + m.col() + " " + m.table() + " " + m.col() + " " + m.col()
	}
	return "any"
}

func (m maker) view(depth int) string {
	if depth == 0 {
		return "all " + m.table()
	}
	under := m.view(depth - 1)
	switch m.Intn(6) {
	case 0:
		return "keep " + m.condition(1) + " " + under
	case 1:
		return "pick " + m.cols() + " " + under
	case 2:
		return "join " + m.col() + " " + m.col() + " " + under + " " + m.view(m.Intn(depth))
	case 3:
		return "both " + under + " " + m.one(under, m.view(m.Intn(depth)))
	case 4:
		return "count " + m.cols() + " " + under
	}
	return "sum " + m.col() + " " + m.cols() + " " + under
}

func (m maker) law() string {
	var rules []string
	for range 1 + m.Intn(3) {
		rule := "allow " + m.table() + " " + m.condition(m.Intn(3))
		if m.Intn(2) == 0 {
			rule = "mask " + m.table() + " " + m.col() + " " + m.value() + " " + m.condition(m.Intn(2))
		}
		rules = append(rules, rule)
	}
	return strings.Join(rules, ";")
}

// spoil now and then takes a word out, puts one in, or changes one.
func (m maker) spoil(text string) string {
	if m.Intn(3) > 0 {
		return text
	}
	words := strings.Split(text, " ")
	i := m.Intn(len(words))
	switch m.Intn(3) {
	case 0:
		words = slices.Delete(words, i, i+1)
	case 1:
		words = slices.Insert(words, i, words[m.Intn(len(words))])
	default:
		words[i] = m.one("", "any", "all", "docs", "1", "not", words[m.Intn(len(words))])
	}
	return strings.Join(words, " ")
}

func TestCheckAgainstTheOracle(t *testing.T) {
	m := maker{rand.New(rand.NewSource(1))}
	right := 0
	for range 100000 {
		text := m.spoil(m.view(m.Intn(5)))
		types, errno := oracleCheck(text)
		if got, e := Check(home, text); got != types || e != errno {
			t.Fatalf("Check(%q) = %q, %d; the oracle says %q, %d", text, got, e, types, errno)
		}
		if errno == api.OK {
			right++
		}
	}
	if right < 10000 || right > 90000 {
		t.Errorf("%d of 100000 are views: too few, or too many, to tell", right)
	}
}

func TestCheckLawAgainstTheOracle(t *testing.T) {
	m := maker{rand.New(rand.NewSource(2))}
	right := 0
	for range 100000 {
		text := m.spoil(m.law())
		errno := oracleLaw(text)
		if e := CheckLaw(home, text); e != errno {
			t.Fatalf("CheckLaw(%q) = %d; the oracle says %d", text, e, errno)
		}
		if errno == api.OK {
			right++
		}
	}
	if right < 5000 || right > 90000 {
		t.Errorf("%d of 100000 are laws: too few, or too many, to tell", right)
	}
}
