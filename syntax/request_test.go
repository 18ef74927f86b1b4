package syntax

import (
	"errors"
	"slices"
	"strings"
	"testing"

	"veil/api"
)

func TestReadRequest(t *testing.T) {
	for text, want := range map[string]Request{
		"sub 0":             {Word: "sub"},
		"sub 3 ":            {Word: "sub", Number: 3},
		"sub 1 all docs":    {Word: "sub", Number: 1, Rest: "all docs"},
		"sub 1  all docs ":  {Word: "sub", Number: 1, Rest: " all docs "},
		"end 2":             {Word: "end", Number: 2},
		"put":               {Word: "put"},
		"put ":              {Word: "put"},
		"put docs":          {Word: "put", Table: "docs"},
		"put docs 1 'x'":    {Word: "put", Table: "docs", Rest: "1 'x'"},
		"del docs  1":       {Word: "del", Table: "docs", Rest: " 1"},
		"put  docs":         {Word: "put", Rest: "docs"},
		"law":               {Word: "law", Bare: true},
		"law ":              {Word: "law"},
		"law allow t any; ": {Word: "law", Rest: "allow t any; "},
	} {
		if got, err := ReadRequest(text); got != want || err != nil {
			t.Errorf("ReadRequest(%q) = %v, %v, want %v", text, got, err, want)
		}
	}
}

func TestTheLawOfARequest(t *testing.T) {
	schema := homeSchema(t)
	for text, words := range map[string]string{
		"law":                               "",
		"law allow docs any":                "allow docs any;",
		"law allow docs any;allow team any": "allow docs any;",
		"law allow team any":                "",
	} {
		request, err := ReadRequest(text)
		if err != nil {
			t.Fatal(err)
		}
		if law, err := request.Law(schema); err != nil || len(law) != 2 || law[0].Words != words {
			t.Errorf("%q: %v, %v", text, law, err)
		}
	}
	for text, where := range map[string]string{
		"law ":                "a blank, and no rules",
		"law  ":               "rule 1: word 1: no rule",
		"law  allow docs any": "rule 1: word 1: no rule",
		"law allow docs any;": "rule 2: word 1: no rule",
	} {
		request, err := ReadRequest(text)
		if err != nil {
			t.Fatal(err)
		}
		law, err := request.Law(schema)
		var fault *Fault
		if !errors.As(err, &fault) || fault.Errno != api.ErrLaw || err.Error() != where || law != nil {
			t.Errorf("%q: %v, %v, want %q", text, law, err, where)
		}
	}
}

func TestReadRequestRefuses(t *testing.T) {
	for text, where := range map[string]string{
		"":               "word 1: no request",
		" ":              "word 1: no request",
		"hello":          "word 1: no request",
		"SUB 0 all docs": "word 1: no request",
		" sub 0":         "word 1: no request",
		"sub\t0":         "word 1: no request",
		"putdocs 1":      "word 1: no request",
		"sub":            "word 2: no number of a subscription",
		"sub ":           "word 2: no number of a subscription",
		"sub 4":          "word 2: no number of a subscription",
		"sub /":          "word 2: no number of a subscription",
		"sub 00":         "word 2: no number of a subscription",
		"sub -1":         "word 2: no number of a subscription",
		"sub  0 all":     "word 2: no number of a subscription",
		"sub 0all docs":  "word 2: no number of a subscription",
		"end":            "word 2: no number of a subscription",
		"end x":          "word 2: no number of a subscription",
		"end 4 ":         "word 2: no number of a subscription",
		"end 0 ":         "word 3: something behind the end",
		"end 0 0":        "word 3: something behind the end",
	} {
		got, err := ReadRequest(text)
		var fault *Fault
		if !errors.As(err, &fault) || fault.Errno != api.ErrRequest || err.Error() != where || got != (Request{}) {
			t.Errorf("ReadRequest(%q) = %v, %v, want %q", text, got, err, where)
		}
	}
}

func TestReadRow(t *testing.T) {
	types := []Type{Int, Text}
	for text, want := range map[string][]Value{
		"1 'x'":                  {{Type: Int, Number: 1}, {Type: Text, Text: "x"}},
		"-1000000000000000 ''":   {{Type: Int, Number: -1000000000000000}, {Type: Text}},
		"0 'abcdefghijk_'":       {{Type: Int}, {Type: Text, Text: "abcdefghijk_"}},
		"1000000000000000 '007'": {{Type: Int, Number: 1000000000000000}, {Type: Text, Text: "007"}},
	} {
		if got, err := ReadRow(types, text); !slices.Equal(got, want) || err != nil {
			t.Errorf("ReadRow(%q) = %v, %v, want %v", text, got, err, want)
		}
	}
}

func TestReadRowRefuses(t *testing.T) {
	const count = "too few values, or too many"
	const value = "no value of the column's type"
	for text, where := range map[string]string{
		"":                       count,
		" ":                      "value 1: " + value,
		"1":                      count,
		"1 ":                     "value 2: " + value,
		"1 'x' ":                 count,
		"1  'x'":                 count,
		" 1 'x'":                 count,
		"1 'x' 'x'":              count,
		"'x' 1":                  "value 1: " + value,
		"'x' 'x'":                "value 1: " + value,
		"1 1":                    "value 2: " + value,
		"1 me":                   "value 2: " + value,
		"1 'X'":                  "value 2: " + value,
		"1 'abcdefghijklm'":      "value 2: " + value,
		"1 'x y'":                count,
		"01 'x'":                 "value 1: " + value,
		"-0 'x'":                 "value 1: " + value,
		"1000000000000001 'x'":   "value 1: " + value,
		"-1000000000000001 'x'":  "value 1: " + value,
		strings.Repeat(" ", 1e6): count,
	} {
		got, err := ReadRow([]Type{Int, Text}, text)
		var fault *Fault
		if !errors.As(err, &fault) || fault.Errno != api.ErrRow || err.Error() != where || got != nil {
			t.Errorf("ReadRow(%.40q) = %v, %v, want %q", text, got, err, where)
		}
	}
}
