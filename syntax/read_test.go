package syntax

import (
	"reflect"
	"testing"
)

func TestReadSchema(t *testing.T) {
	want := Schema{{"docs", []Type{Int, Text}}, {"team", []Type{Text, Text}}}
	if got := homeSchema(t); !reflect.DeepEqual(got, want) {
		t.Errorf("%v, want %v", got, want)
	}
}

// withoutPlaces takes the places out of conditions, which are for errors alone.
func withoutPlaces(c *Condition) *Condition {
	c.place = 0
	for _, part := range c.Parts {
		withoutPlaces(part)
	}
	return c
}

func readLaw(t *testing.T, text string) Law {
	t.Helper()
	law, err := ReadLaw(homeSchema(t), text)
	if err != nil {
		t.Fatal(err)
	}
	return law
}

func TestReadConditions(t *testing.T) {
	for _, c := range []struct {
		text string
		want *Condition
	}{
		{"any", &Condition{Test: Any}},
		{"eq 1 -5", &Condition{Test: Equal, Column: 0, Value: Value{Type: Int, Number: -5}}},
		{"eq 2 'me'", &Condition{Test: Equal, Column: 1, Value: Value{Type: Text, Text: "me"}}},
		{"eq 2 me", &Condition{Test: Equal, Column: 1, Value: Value{Type: Text}, Me: true}},
		{"lt 1 1000000000000000", &Condition{Test: Less, Column: 0, Value: Value{Type: Int, Number: 1000000000000000}}},
		{"same 2 2", &Condition{Test: Same, Column: 1, Other: 1}},
		{"not any", &Condition{Test: Not, Parts: []*Condition{{Test: Any}}}},
		{"and any or any same 1 1", &Condition{Test: And, Parts: []*Condition{{Test: Any}, {Test: Or, Parts: []*Condition{{Test: Any}, {Test: Same}}}}}},
		{"in 2 team 1 2", &Condition{Test: In, Column: 1, Table: 1, Match: 0, Who: 1}},
	} {
		got := withoutPlaces(readLaw(t, "allow docs "+c.text)[0].Allows[0])
		if !reflect.DeepEqual(got, c.want) {
			t.Errorf("%q: %+v, want %+v", c.text, got, c.want)
		}
	}
}

func TestReadLaw(t *testing.T) {
	law := readLaw(t, "mask docs 1 -1 any;allow team any;mask team 2 'x' any;allow docs any;allow docs any")
	for _, rules := range law {
		for _, mask := range rules.Masks {
			withoutPlaces(mask.Condition)
		}
		for _, allow := range rules.Allows {
			withoutPlaces(allow)
		}
	}
	yes := &Condition{Test: Any}
	want := Law{
		{"mask docs 1 -1 any;allow docs any;allow docs any;", []*Condition{yes, yes}, []Mask{{0, Value{Type: Int, Number: -1}, yes}}},
		{"allow team any;mask team 2 'x' any;", []*Condition{yes}, []Mask{{1, Value{Type: Text, Text: "x"}, yes}}},
	}
	if !reflect.DeepEqual(law, want) {
		t.Errorf("%+v, want %+v", law, want)
	}
}

func TestReadNoRules(t *testing.T) {
	if law := readLaw(t, ""); !reflect.DeepEqual(law, Law{{}, {}}) {
		t.Errorf("%+v", law)
	}
}

// withWords is a view of these words.
func withWords(words string, v View) *View {
	v.Words = words
	return &v
}

func TestReadView(t *testing.T) {
	docs := withWords("all docs", View{Operator: All, Table: 0, Types: []Type{Int, Text}})
	team := withWords("all team", View{Operator: All, Table: 1, Types: []Type{Text, Text}})
	for text, want := range map[string]View{
		"all team":                   *team,
		"keep any all docs":          {Operator: Keep, Condition: &Condition{Test: Any}, Parts: []*View{docs}, Types: []Type{Int, Text}},
		"pick 2,1,2 all docs":        {Operator: Pick, Columns: []int{1, 0, 1}, Parts: []*View{docs}, Types: []Type{Text, Int, Text}},
		"join 2 1 all docs all team": {Operator: Join, Columns: []int{1, 0}, Parts: []*View{docs, team}, Types: []Type{Int, Text, Text, Text}},
		"both all docs all docs":     {Operator: Both, Parts: []*View{docs, docs}, Types: []Type{Int, Text}},
		"count 2 all docs":           {Operator: Count, Columns: []int{1}, Parts: []*View{docs}, Types: []Type{Text, Int}},
		"sum 1 2 all docs":           {Operator: Sum, Summed: 0, Columns: []int{1}, Parts: []*View{docs}, Types: []Type{Text, Int}},
	} {
		got, err := ReadView(homeSchema(t), text)
		if err != nil {
			t.Errorf("%q: %v", text, err)
			continue
		}
		if got.Condition != nil {
			withoutPlaces(got.Condition)
		}
		if !reflect.DeepEqual(got, withWords(text, want)) {
			t.Errorf("%q: %+v, want %+v", text, got, want)
		}
	}
}

func TestPartsHaveTheirWords(t *testing.T) {
	view, err := ReadView(homeSchema(t), "both keep eq 2 'all' all docs pick 1,2 join 1 1 all docs all docs")
	if err != nil {
		t.Fatal(err)
	}
	keep, pick := view.Parts[0], view.Parts[1]
	for got, want := range map[string]string{
		keep.Words:                   "keep eq 2 'all' all docs",
		keep.Parts[0].Words:          "all docs",
		pick.Words:                   "pick 1,2 join 1 1 all docs all docs",
		pick.Parts[0].Words:          "join 1 1 all docs all docs",
		pick.Parts[0].Parts[1].Words: "all docs",
	} {
		if got != want {
			t.Errorf("%q, want %q", got, want)
		}
	}
}

func TestIsName(t *testing.T) {
	for _, word := range []string{"a", "z", "abcdefgh", "int", "root"} {
		if !IsName(word) {
			t.Errorf("%q is a name", word)
		}
	}
	for _, word := range []string{"", "A", "a1", "a_b", "abcdefghi", " ", "a b", "'a'", "\u00e4", "`", "{"} {
		if IsName(word) {
			t.Errorf("%q is no name", word)
		}
	}
}
