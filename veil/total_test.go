package veil

import (
	"strings"
	"sync"
	"testing"

	"veil/api"
)

// badSchemas, badViews and badLaws are texts of all sorts that are none.
var badSchemas = []string{"", "docs", "docs int;", "Docs int", "docs int;docs int", "\xff\xfe", "docs\x00int", strings.Repeat("docs int;", 1<<20)}

var badViews = []string{"", "x", "all x", "\xff", "keep", strings.Repeat("keep any ", 1<<20), strings.Repeat(" ", 1<<20), strings.Repeat("x", 1<<23)}

var badLaws = []string{" ", ";", "allow x any", "\xff", strings.Repeat("not ", 1<<20), strings.Repeat("x", 1<<23)}

func TestTheFirstErrorIsTheAnswer(t *testing.T) {
	for _, schema := range badSchemas {
		for _, view := range append(badViews, "all docs") {
			wantRefused(t, schema, view, api.ErrSchema)
		}
		for _, law := range append(badLaws, "", "allow docs any") {
			wantLaw(t, schema, law, api.ErrSchema)
		}
	}
	for _, view := range badViews {
		wantRefused(t, home, view, api.ErrView)
	}
	for _, law := range badLaws {
		wantLaw(t, home, law, api.ErrLaw)
	}
}

// answer is what both calls told of one schema and one text.
type answer struct {
	types string
	view  api.Errno
	law   api.Errno
}

func ask(schema, text string) answer {
	types, view := Check(schema, text)
	return answer{types, view, CheckLaw(schema, text)}
}

func TestAnswersHangOnTheArgumentsAlone(t *testing.T) {
	schemas := []string{home, wide, "", "docs text int"}
	texts := []string{"all docs", "pick 2,1 all docs", "sum 1 - all docs", "allow docs eq 1 0", "mask docs 1 0 any;mask docs 1 1 any", "", "x"}
	first := map[[2]string]answer{}
	for _, schema := range schemas {
		for _, text := range texts {
			first[[2]string{schema, text}] = ask(schema, text)
		}
	}
	var group sync.WaitGroup
	for i := range 8 {
		group.Go(func() {
			for k := range 10 * len(schemas) * len(texts) {
				k = k*11 + i
				schema, text := schemas[k%len(schemas)], texts[k/len(schemas)%len(texts)]
				if got, want := ask(schema, text), first[[2]string{schema, text}]; got != want {
					t.Errorf("%q, %q: %v, at first %v", schema, text, got, want)
				}
			}
		})
	}
	group.Wait()
}

// wellFormed holds what must be so of any answers whatever.
func wellFormed(t *testing.T, schema, text string) {
	got := ask(schema, text)
	if (got.view == api.ErrSchema) != (got.law == api.ErrSchema) {
		t.Errorf("%q, %q: the calls differ about the schema: %v", schema, text, got)
	}
	if got.view != api.OK && got.view != api.ErrSchema && got.view != api.ErrView {
		t.Errorf("%q, %q: Check answers %d", schema, text, got.view)
	}
	if got.law != api.OK && got.law != api.ErrSchema && got.law != api.ErrLaw {
		t.Errorf("%q, %q: CheckLaw answers %d", schema, text, got.law)
	}
	if got.view != api.OK && got.types != "" {
		t.Errorf("%q, %q: types with an error: %v", schema, text, got)
	}
	if got.view == api.OK && got.law == api.OK {
		t.Errorf("%q, %q: a view and a law at once", schema, text)
	}
}

func FuzzTexts(f *testing.F) {
	for _, text := range []string{"all docs", "keep and eq 2 me lt 1 -5 all docs", "join 2 1 all docs all team", "sum 1 2,2 both all docs all docs", "allow docs in 2 team 1 2;mask docs 1 0 eq 2 'x'", "", "\xff\x00", "pick 1,2,- all"} {
		f.Add(home, text)
		f.Add(text, home)
		f.Add(wide, text)
	}
	f.Fuzz(wellFormed)
}
