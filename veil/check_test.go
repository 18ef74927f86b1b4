package veil

import (
	"strings"
	"testing"

	"veil/api"
)

const home = "docs int text;team text text"

// wide has as many tables, and a table of as many columns, as there may be.
const wide = "five int int int int int;b text int;c text;d int;e int;f int"

func wantTypes(t *testing.T, schema, view, types string) {
	t.Helper()
	if got, errno := Check(schema, view); got != types || errno != api.OK {
		t.Errorf("Check(%.80q, %.80q) = %q, %d; want %q, 0", schema, view, got, errno, types)
	}
}

func wantRefused(t *testing.T, schema, view string, want api.Errno) {
	t.Helper()
	if got, errno := Check(schema, view); got != "" || errno != want {
		t.Errorf("Check(%.80q, %.80q) = %q, %d; want nothing, %d", schema, view, got, errno, want)
	}
}

func TestCheckTellsTheTypes(t *testing.T) {
	for _, c := range []struct{ view, types string }{
		{"all docs", "int text"},
		{"all team", "text text"},
		{"keep any all docs", "int text"},
		{"keep eq 1 7 all docs", "int text"},
		{"keep eq 2 'red' all docs", "int text"},
		{"keep eq 2 me all docs", "int text"},
		{"keep lt 1 -3 all docs", "int text"},
		{"keep same 1 2 all team", "text text"},
		{"keep same 2 2 all docs", "int text"},
		{"keep not or eq 1 0 and any lt 1 4 all docs", "int text"},
		{"keep eq 3 5 count 2,1 all docs", "text int int"},
		{"pick 2,2,1 all docs", "text text int"},
		{"pick - all docs", ""},
		{"pick - pick - all docs", ""},
		{"keep any pick - all docs", ""},
		{"count - pick - all docs", "int"},
		{"join 2 1 all docs all team", "int text text text"},
		{"join 1 2 all team all docs", "text text int text"},
		{"join 1 1 count - all docs all docs", "int int text"},
		{"both all docs all docs", "int text"},
		{"both pick 2,1 all docs count 2 all docs", "text int"},
		{"both pick - all docs pick - all team", ""},
		{"count 2 all docs", "text int"},
		{"count - all docs", "int"},
		{"count 1,1,2 all docs", "int int text int"},
		{"sum 1 2 all docs", "text int"},
		{"sum 1 1 all docs", "int int"},
		{"sum 1 - all docs", "int"},
		{"sum 2 - count 2 all docs", "int"},
	} {
		wantTypes(t, home, c.view, c.types)
	}
}

func TestCheckRefusesWhatIsNoView(t *testing.T) {
	for _, view := range []string{
		"", " ", "docs", "all", "all ", "all x", "all Docs", "all docs docs", "all docs all docs", "all;docs", "all docs;",
		"any", "allow docs any", "any docs", "all\tdocs", "all docs\n", "all docs\x00", "ALL docs", "all 'docs'",
		" all docs", "all docs ", "all  docs", "keep any  all docs",
		"keep all docs", "keep any", "keep any docs", "keep x all docs", "keep any any all docs",
		"keep eq 1 all docs", "keep eq all docs", "keep eq 1 'x' all docs", "keep eq 2 1 all docs", "keep eq 1 me all docs",
		"keep eq 2 Me all docs", "keep eq 2 red all docs", "keep eq 3 5 all docs", "keep eq 0 5 all docs", "keep eq me 1 all docs",
		"keep eq 9 1 all docs", "keep eq 11 1 all docs", "keep eq -1 1 all docs", "keep eq 1,1 1 all docs", "keep eq - 1 all docs", "keep eq  1 all docs",
		"keep lt 2 5 all docs", "keep lt 2 'x' all docs", "keep lt 1 'x' all docs", "keep lt 1 me all docs", "keep lt 2 me all docs", "keep lt 3 5 all docs",
		"keep same 1 2 all docs", "keep same 1 3 all docs", "keep same 3 3 all docs", "keep same 1 all docs", "keep same 1 1 1 all docs",
		"keep not all docs", "keep and any all docs", "keep or any all docs", "keep not lt 2 5 all docs", "keep or any eq 3 5 all docs", "keep and eq 3 5 any all docs",
		"keep in 2 team 1 2 all docs", "keep not in 2 team 1 2 all docs", "keep eq 1 1 pick - all docs", "keep same 1 1 pick - all docs",
		"pick all docs", "pick 3 all docs", "pick 1,3 all docs", "pick 0 all docs", "pick 1, all docs", "pick ,1 all docs", "pick 1,,1 all docs",
		"pick , all docs", "pick 12 all docs", "pick 1,- all docs", "pick -,- all docs", "pick -1 all docs", "pick 1;2 all docs", "pick 1, 2 all docs", "pick  all docs", "pick 1", "pick 1 pick - all docs",
		"join 1 1 all docs", "join 1 1 all docs all team", "join 2 3 all docs all team", "join 3 1 all docs all team", "join 1,1 1 all docs all docs", "join - - all docs all docs", "join 1 all docs all docs", "join 2 1 all docs all team all team",
		"both all docs", "both all docs all team", "both all docs pick 2,1 all docs", "both all docs pick 1 all docs", "both pick 1 all docs all docs", "both all docs all docs all docs",
		"count all docs", "count 3 all docs", "count 1", "count - docs", "count x all docs",
		"sum 1 all docs", "sum 2 1 all docs", "sum 3 1 all docs", "sum 1 3 all docs", "sum - 1 all docs", "sum 1,1 1 all docs", "sum 0 1 all docs", "sum 1 - - all docs", "sum 1 - pick - all docs",
	} {
		wantRefused(t, home, view, api.ErrView)
	}
}

func TestCheckNumbers(t *testing.T) {
	for _, number := range []string{"0", "1", "-1", "10", "-10", "999999999999999", "1000000000000000", "-1000000000000000"} {
		wantTypes(t, home, "keep eq 1 "+number+" all docs", "int text")
		wantTypes(t, home, "keep lt 1 "+number+" all docs", "int text")
	}
	for _, number := range []string{"", "-", "-0", "00", "01", "-01", "--1", "+1", "1-", "1.0", "1e3", "0x1", "1_0", "x", "1000000000000001", "-1000000000000001", "9999999999999999", "18446744073709551617", "99999999999999999999", "-99999999999999999999", "0000000000000001", "\u0661", strings.Repeat("1", 1<<20)} {
		wantRefused(t, home, "keep eq 1 "+number+" all docs", api.ErrView)
		wantRefused(t, home, "keep lt 1 "+number+" all docs", api.ErrView)
	}
}

func TestCheckTexts(t *testing.T) {
	for _, text := range []string{"''", "'a'", "'z'", "'0'", "'9'", "'_'", "'me'", "'abcdefghijkl'", "'____________'", "'012345678901'"} {
		wantTypes(t, home, "keep eq 2 "+text+" all docs", "int text")
	}
	for _, text := range []string{"'", "a", "'a", "a'", "'''", "'a'b'", "''a", "\"a\"", "'A'", "'-'", "'a-b'", "'`'", "'{'", "'/'", "':'", "'\u00e9'", "'\x00'", "'a;b'", "'a b'", "'abcdefghijklm'", "'" + strings.Repeat("a", 1<<20) + "'"} {
		wantRefused(t, home, "keep eq 2 "+text+" all docs", api.ErrView)
	}
}

func TestCheckWordsHaveALimit(t *testing.T) {
	wantTypes(t, home, strings.Repeat("keep any ", 29)+"all docs", "int text")                        // 60
	wantRefused(t, home, strings.Repeat("keep any ", 28)+"keep not any all docs", api.ErrView)        // 61
	wantRefused(t, home, strings.Repeat("keep any ", 30)+"all docs", api.ErrView)                     // 62
	wantTypes(t, home, "keep "+strings.Repeat("not ", 56)+"any all docs", "int text")                 // 60
	wantRefused(t, home, "keep "+strings.Repeat("not ", 57)+"any all docs", api.ErrView)              // 61
	wantTypes(t, home, strings.Repeat("both all docs ", 18)+"keep any keep any all docs", "int text") // 60
	wantRefused(t, home, strings.Repeat("both all docs ", 19)+"keep any all docs", api.ErrView)       // 61
}

func TestCheckWidthHasALimit(t *testing.T) {
	nine := strings.TrimSpace(strings.Repeat("int ", 9))
	wantTypes(t, home, "pick 1,1,1,1,1,1,1,1,1 all docs", nine)
	wantTypes(t, home, "count 1,1,1,1,1,1,1,1 all docs", nine)
	wantTypes(t, home, "sum 1 1,1,1,1,1,1,1,1 all docs", nine)
	wantTypes(t, wide, "join 1 1 all five pick 1,2,3,4 all five", nine)
	wantTypes(t, home, "keep lt 9 5 count 1,1,1,1,1,1,1,1 all docs", nine)
	for _, view := range []string{
		"pick 1,1,1,1,1,1,1,1,1,1 all five",
		"pick " + strings.Repeat("1,", 1<<20) + "1 all five",
		"count 1,1,1,1,1,1,1,1,1 all five",
		"sum 1 1,1,1,1,1,1,1,1,1 all five",
		"join 1 1 all five all five",
		"pick 1 join 1 1 all five all five",
		"count - count 1,1,1,1,1,1,1,1,1 all five",
		"pick - pick 1,1,1,1,1,1,1,1,1,1 all five",
		"keep lt 10 5 pick 1,1,1,1,1,1,1,1,1 all five",
	} {
		wantRefused(t, wide, view, api.ErrView)
	}
}

func TestCheckSchemas(t *testing.T) {
	for _, c := range []struct{ schema, view, types string }{
		{"a int", "all a", "int"},
		{"abcdefgh text", "all abcdefgh", "text"},
		{"all int", "all all", "int"},
		{"int int;text text", "both all int pick 1 all int", "int"},
		{"me text", "keep eq 1 me all me", "text"},
		{"any int;keep text", "keep any all keep", "text"},
		{"join int;both int", "join 1 1 all join all both", "int int"},
		{wide, "all five", "int int int int int"},
		{wide, "all f", "int"},
	} {
		wantTypes(t, c.schema, c.view, c.types)
	}
	for _, schema := range []string{
		"", " ", ";", "docs", "docs ", " docs int", "docs int ", "docs  int", "docs int  text", "docs int;", ";docs int", "docs int;;team text",
		"docs int ;team text", "docs int; team text", "docs int,team text", "docs int;docs int", "docs int;team text;docs text", "docs int;team",
		"Docs int", "d0cs int", "do_cs int", "docs' int", "d\u00f6cs int", "abcdefghi int", "int", "docs Int", "docs integer", "docs texts", "docs 'int'", "docs\tint", "docs int\n", "docs int\x00",
		"docs int int int int int int", wide + ";g int", strings.Repeat(";", 1<<20), strings.Repeat(" ", 1<<20), "docs " + strings.Repeat("int ", 1<<20) + "int", strings.Repeat("d", 1<<20) + " int",
	} {
		wantRefused(t, schema, "all docs", api.ErrSchema)
	}
}
