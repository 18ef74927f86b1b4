package syntax

import (
	"errors"
	"strings"
	"testing"

	"veil/api"
)

const home = "docs int text;team text text"

func homeSchema(t *testing.T) Schema {
	t.Helper()
	schema, err := ReadSchema(home)
	if err != nil {
		t.Fatal(err)
	}
	return schema
}

// wantFault holds that there is a fault of that number at the bottom of the error, and that the way down to it is told.
func wantFault(t *testing.T, text string, err error, errno api.Errno, told string) {
	t.Helper()
	var fault *Fault
	if !errors.As(err, &fault) {
		t.Errorf("%q: the error %v has no fault in it", text, err)
		return
	}
	if fault.Errno != errno || err.Error() != told {
		t.Errorf("%q: %d, %q; want %d, %q", text, fault.Errno, err, errno, told)
	}
}

func TestSchemaFaults(t *testing.T) {
	for _, c := range []struct{ text, told string }{
		{"", "table 1: no name"},
		{"docs int;Team text", "table 2: no name"},
		{"docs int;team", "table 2: no columns"},
		{"docs int;team text Int", "table 2: column 2: no type"},
		{"docs int;docs text", "table 2: a table of this name is there already"},
		{"docs int int int int int int", "table 1: too many columns"},
		{"a int;b int;c int;d int;e int;f int;g int", "too many tables"},
	} {
		schema, err := ReadSchema(c.text)
		if schema != nil {
			t.Errorf("%q: a schema with an error", c.text)
		}
		wantFault(t, c.text, err, api.ErrSchema, c.told)
	}
}

func TestViewFaults(t *testing.T) {
	for _, c := range []struct{ text, told string }{
		{"", "view at word 1: word 1: no view"},
		{"all", "view at word 1: word 2: no such table"},
		{"all x", "view at word 1: word 2: no such table"},
		{"all docs docs", "word 3: something behind the end"},
		{"keep any keep lt 2 5 all docs", "view at word 1: view at word 3: condition at word 4: no such columns, or of another type"},
		{"keep not eq 1 me all docs", "view at word 1: condition at word 2: condition at word 3: no such columns, or of another type"},
		{"keep in 2 team 1 2 all docs", "view at word 1: condition at word 2: word 2: stands in rules alone"},
		{"keep and any all docs", "view at word 1: condition at word 2: condition at word 4: word 4: no condition"},
		{"keep eq 0 5 all docs", "view at word 1: condition at word 2: word 3: no column"},
		{"keep eq 1 x all docs", "view at word 1: condition at word 2: word 4: no value"},
		{"keep lt 1 'x' all docs", "view at word 1: condition at word 2: word 4: no number"},
		{"pick 1, all docs", "view at word 1: word 2: no columns"},
		{"pick 3 all docs", "view at word 1: no such column"},
		{"join 1 1 all docs all team", "view at word 1: no such columns, or not of one type"},
		{"both all docs all team", "view at word 1: views of other types"},
		{"sum 2 1 all docs", "view at word 1: no column of numbers to sum"},
		{"count 1,1,1,1,1,1,1,1,1 all docs", "view at word 1: too many columns"},
		{"pick 1,1,1,1,1,1,1,1,1,1 all docs", "view at word 1: word 2: too many columns"},
		{strings.Repeat("keep any ", 30) + "all docs", "too many words"},
	} {
		view, err := ReadView(homeSchema(t), c.text)
		if view != nil {
			t.Errorf("%q: a view with an error", c.text)
		}
		wantFault(t, c.text, err, api.ErrView, c.told)
	}
}

func TestLawFaults(t *testing.T) {
	for _, c := range []struct{ text, told string }{
		{" ", "rule 1: word 1: no rule"},
		{"allow docs any;", "rule 2: word 1: no rule"},
		{"allow x any", "rule 1: word 2: no such table"},
		{"allow docs", "rule 1: condition at word 3: word 3: no condition"},
		{"allow docs any any", "rule 1: word 4: something behind the end"},
		{"allow docs any;allow docs or any in 1 team 1 2", "rule 2: condition at word 3: condition at word 5: no such columns, or of another type"},
		{"allow docs in 2 x 1 2", "rule 1: condition at word 3: word 5: no such table"},
		{"mask docs 1 me any", "rule 1: word 4: no value"},
		{"mask docs 1 'x' any", "rule 1: no such column, or of another type"},
		{"mask docs 1 0 any;mask docs 1 1 any", "rule 2: the column has a mask already"},
		{strings.Repeat("not ", 60) + "any", "too many words"},
	} {
		law, err := ReadLaw(homeSchema(t), c.text)
		if law != nil {
			t.Errorf("%q: a law with an error", c.text)
		}
		wantFault(t, c.text, err, api.ErrLaw, c.told)
	}
}
