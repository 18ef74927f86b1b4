package veil

import (
	"strings"
	"testing"

	"veil/api"
)

func wantLaw(t *testing.T, schema, law string, want api.Errno) {
	t.Helper()
	if errno := CheckLaw(schema, law); errno != want {
		t.Errorf("CheckLaw(%.80q, %.80q) = %d; want %d", schema, law, errno, want)
	}
}

// rules lays so many copies of a rule behind each other.
func rules(rule string, times int) string {
	return strings.TrimSuffix(strings.Repeat(rule+";", times), ";")
}

func TestCheckLawTakesRules(t *testing.T) {
	for _, law := range []string{
		"",
		"allow docs any",
		"allow docs any;allow docs any",
		"allow docs in 2 team 1 2;mask docs 1 0 eq 2 me",
		"allow docs in 2 docs 2 2",
		"allow team in 1 team 2 1",
		"allow docs not and in 2 team 1 2 or lt 1 5 same 1 1",
		"mask docs 1 0 any",
		"mask docs 2 '' not any",
		"mask docs 1 -1 any;mask docs 2 'x' any;mask team 1 '' any;mask team 2 '' in 1 team 1 2",
	} {
		wantLaw(t, home, law, api.OK)
	}
	wantLaw(t, "a int text", "allow a in 1 a 1 2", api.OK)
	wantLaw(t, "any int;allow text", "allow any any;mask allow 1 'x' eq 1 me", api.OK)
}

func TestCheckLawRefusesWhatIsNoLaw(t *testing.T) {
	for _, law := range []string{
		" ", ";", ";;", "any", "docs", "all docs", "allow", "mask", "allow ", "allow docs", "allow docs ", "allow any", "allow x any", "allow docs x", "allow docs any any", "Allow docs any", "deny docs any",
		"allow docs any;", ";allow docs any", "allow docs any;;allow docs any", "allow docs any; allow docs any", "allow docs any ;allow docs any", "allow docs any allow docs any", "allow docs any,allow docs any",
		" allow docs any", "allow docs any ", "allow  docs any", "allow docs  any", "allow docs any\n", "allow docs any;allow docs", "allow docs all docs",
		"allow docs eq 1 me", "allow docs eq 1 'x'", "allow docs eq 3 1", "allow docs lt 2 1", "allow docs lt 1 me", "allow docs same 1 2", "allow docs not eq 1 me", "allow docs or any same 1 2", "allow docs and any",
		"allow docs in", "allow docs in 2", "allow docs in 2 team", "allow docs in 2 team 1", "allow docs in 2 team 1 2 2", "allow docs in 2 x 1 2", "allow docs in team 2 1 2", "allow docs in 2 team 1,2",
		"allow docs in 1 team 1 2", "allow docs in 2 docs 1 2", "allow docs in 2 docs 2 1", "allow docs in 1 docs 1 1", "allow docs in 3 team 1 2", "allow docs in 2 team 3 2", "allow docs in 2 team 1 3", "allow docs in 0 team 1 2", "allow docs not in 1 team 1 2",
		"mask docs", "mask docs 1", "mask docs 1 0", "mask docs 1 any", "mask x 1 0 any", "mask docs 0 0 any", "mask docs 3 0 any", "mask docs 3 'x' any", "mask docs 1,2 0 any", "mask docs - 0 any", "mask docs 1 -0 any",
		"mask docs 1 'x' any", "mask docs 2 5 any", "mask docs 1 me any", "mask docs 2 me any", "mask docs 1 0 any any", "mask docs 1 0 eq 1 me", "mask docs 1 1000000000000001 any", "mask docs 2 'abcdefghijklm' any",
		"mask docs 1 0 any;mask docs 1 0 any", "mask docs 1 0 any;mask docs 1 1 any", "mask docs 1 0 any;allow docs any;mask docs 1 1 not any", "mask docs 2 'x' any;mask team 2 'x' any;mask docs 2 'x' any",
	} {
		wantLaw(t, home, law, api.ErrLaw)
	}
	wantLaw(t, "a int text", "allow a in 2 a 1 2", api.ErrLaw)
}

func TestCheckLawWordsHaveALimit(t *testing.T) {
	wantLaw(t, home, rules("allow docs any", 20), api.OK)                               // 60
	wantLaw(t, home, rules("allow docs any", 19)+";allow docs not any", api.ErrLaw)     // 61
	wantLaw(t, home, rules("allow docs any", 21), api.ErrLaw)                           // 63
	wantLaw(t, home, "allow docs "+strings.Repeat("not ", 57)+"any", api.OK)            // 60
	wantLaw(t, home, "allow docs "+strings.Repeat("not ", 58)+"any", api.ErrLaw)        // 61
	wantLaw(t, home, "mask docs 1 0 "+strings.Repeat("not ", 55)+"any", api.OK)         // 60
	wantLaw(t, home, "mask docs 1 0 "+strings.Repeat("not ", 56)+"any", api.ErrLaw)     // 61
	wantLaw(t, home, "allow docs "+strings.Repeat("and any ", 1<<20)+"any", api.ErrLaw) // far above
	wantLaw(t, home, strings.Repeat(";", 1<<20), api.ErrLaw)
}
