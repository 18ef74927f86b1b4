package veil

import (
	"strconv"
	"strings"
	"sync"
	"testing"

	"veil/api"
)

// changes are requests of root, to tables in which there are three rows.
var changes = []string{"put docs -5 'a'", "put docs 2 'b'", "del docs 2 'b'", "put team 'a' 'root'", "put team 'b' 'b'", "del docs 1 'a'"}

// told is what root is told of a view: at first, and behind each of the changes; nothing where it is the same.
var told = []struct {
	view  string
	first string
	then  []string
}{
	{"all docs", "; +1 1 'a'; +2 2 'b'", []string{"; +1 -5 'a'", "; +1 2 'b'", "; -1 2 'b'", "", "", "; -1 1 'a'"}},
	{"all team", "", []string{"", "", "", "; +1 'a' 'root'", "; +1 'b' 'b'", ""}},
	{"keep any all docs", "; +1 1 'a'; +2 2 'b'", []string{"; +1 -5 'a'", "; +1 2 'b'", "; -1 2 'b'", "", "", "; -1 1 'a'"}},
	{"keep eq 1 2 all docs", "; +2 2 'b'", []string{"", "; +1 2 'b'", "; -1 2 'b'", "", "", ""}},
	{"keep eq 2 'a' all docs", "; +1 1 'a'", []string{"; +1 -5 'a'", "", "", "", "", "; -1 1 'a'"}},
	{"keep eq 2 me all team", "", []string{"", "", "", "; +1 'a' 'root'", "", ""}},
	{"keep lt 1 1 all docs", "", []string{"; +1 -5 'a'", "", "", "", "", ""}},
	{"keep lt 1 2 all docs", "; +1 1 'a'", []string{"; +1 -5 'a'", "", "", "", "", "; -1 1 'a'"}},
	{"keep same 1 2 all team", "", []string{"", "", "", "", "; +1 'b' 'b'", ""}},
	{"keep not eq 2 'a' all docs", "; +2 2 'b'", []string{"", "; +1 2 'b'", "; -1 2 'b'", "", "", ""}},
	{"keep and eq 2 'a' lt 1 0 all docs", "", []string{"; +1 -5 'a'", "", "", "", "", ""}},
	{"keep or eq 2 'b' lt 1 0 all docs", "; +2 2 'b'", []string{"; +1 -5 'a'", "; +1 2 'b'", "; -1 2 'b'", "", "", ""}},
	{"pick 2 all docs", "; +1 'a'; +2 'b'", []string{"; +1 'a'", "; +1 'b'", "; -1 'b'", "", "", "; -1 'a'"}},
	{"pick 2,1,2 all docs", "; +1 'a' 1 'a'; +2 'b' 2 'b'", []string{"; +1 'a' -5 'a'", "; +1 'b' 2 'b'", "; -1 'b' 2 'b'", "", "", "; -1 'a' 1 'a'"}},
	{"pick - all docs", "; +3", []string{"; +1", "; +1", "; -1", "", "", "; -1"}},
	{"join 2 1 all docs all team", "", []string{"", "", "", "; +1 -5 'a' 'a' 'root'; +1 1 'a' 'a' 'root'", "; +2 2 'b' 'b' 'b'", "; -1 1 'a' 'a' 'root'"}},
	{"join 1 2 all team all docs", "", []string{"", "", "", "; +1 'a' 'root' -5 'a'; +1 'a' 'root' 1 'a'", "; +2 'b' 'b' 2 'b'", "; -1 'a' 'root' 1 'a'"}},
	{"join 1 1 pick 1 all docs pick 1 all docs", "; +1 1 1; +4 2 2", []string{"; +1 -5 -5", "; +5 2 2", "; -5 2 2", "", "", "; -1 1 1"}},
	{"both all docs all docs", "; +2 1 'a'; +4 2 'b'", []string{"; +2 -5 'a'", "; +2 2 'b'", "; -2 2 'b'", "", "", "; -2 1 'a'"}},
	{"both pick 2 all docs pick 1 all team", "; +1 'a'; +2 'b'", []string{"; +1 'a'", "; +1 'b'", "; -1 'b'", "; +1 'a'", "; +1 'b'", "; -1 'a'"}},
	{"count 2 all docs", "; +1 'a' 1; +1 'b' 2", []string{"; -1 'a' 1; +1 'a' 2", "; -1 'b' 2; +1 'b' 3", "; +1 'b' 2; -1 'b' 3", "", "", "; +1 'a' 1; -1 'a' 2"}},
	{"count 1,1 all docs", "; +1 1 1 1; +1 2 2 2", []string{"; +1 -5 -5 1", "; -1 2 2 2; +1 2 2 3", "; +1 2 2 2; -1 2 2 3", "", "", "; -1 1 1 1"}},
	{"count - all docs", "; +1 3", []string{"; -1 3; +1 4", "; -1 4; +1 5", "; +1 4; -1 5", "", "", "; +1 3; -1 4"}},
	{"count - all team", "", []string{"", "", "", "; +1 1", "; -1 1; +1 2", ""}},
	{"sum 1 2 all docs", "; +1 'a' 1; +1 'b' 4", []string{"; +1 'a' -4; -1 'a' 1", "; -1 'b' 4; +1 'b' 6", "; +1 'b' 4; -1 'b' 6", "", "", "; +1 'a' -5; -1 'a' -4"}},
	{"sum 1 - all docs", "; +1 5", []string{"; +1 0; -1 5", "; -1 0; +1 2", "; +1 0; -1 2", "", "", "; +1 -1; -1 0"}},
	{"count - keep eq 1 0 sum 1 - all docs", "", []string{"; +1 1", "; -1 1", "; +1 1", "", "", "; -1 1"}},
	// The same count, and the same sum, of other rows is no change.
	{"pick 1 count 1 all docs", "; +1 1; +1 2", []string{"; +1 -5", "", "", "", "", "; -1 1"}},
	{"count - count 2 all docs", "; +1 2", []string{"", "", "", "", "", ""}},
	{"sum 1 - keep eq 2 'c' all docs", "", []string{"", "", "", "", "", ""}},
}

func TestViewsAreToldAsTheyChange(t *testing.T) {
	for _, c := range told {
		for _, share := range []bool{true, false} {
			s := start(t, share, 8, "root")
			say(t, s, 0, "put docs 2 'b'", "put docs 1 'a'", "put docs 2 'b'")
			hears(t, s, 0, "ok", "ok", "ok")
			asks(t, s, 0, "sub 3 "+c.view, "ok", "snap 3 0"+c.first)
			frames := 0
			for i, request := range changes {
				if c.then[i] == "" {
					asks(t, s, 0, request, "ok")
					continue
				}
				frames++
				asks(t, s, 0, request, "ok", "delta 3 "+strconv.Itoa(frames)+c.then[i])
			}
		}
	}
}

func TestRowsRise(t *testing.T) {
	s := start(t, true, 8, "root")
	for _, row := range []string{"10 'b'", "9 'b'", "-10 'b'", "-9 'b'", "0 'ba'", "0 'b'", "0 ''", "0 '_'", "0 'b0'", "0 '10'", "0 '9'", "1000000000000000 ''", "-1000000000000000 ''", "256 ''", "255 ''"} {
		say(t, s, 0, "put docs "+row)
	}
	s.Drain(0, 100)
	asks(t, s, 0, "sub 0 all docs", "ok", "snap 0 0; +1 -1000000000000000 ''; +1 -10 'b'; +1 -9 'b'; +1 0 ''; +1 0 '10'; +1 0 '9'; +1 0 '_'; +1 0 'b'; +1 0 'b0'; +1 0 'ba'; +1 9 'b'; +1 10 'b'; +1 255 ''; +1 256 ''; +1 1000000000000000 ''")
}

// Sums leave what a number may be, and then 64 bits.
func TestSumsWrapRound(t *testing.T) {
	s := start(t, true, 8, "root")
	say(t, s, 0, "put docs 1000000000000000 'a'", "put docs 1000000000000000 'a'")
	hears(t, s, 0, "ok", "ok")
	asks(t, s, 0, "sub 0 sum 1 - all docs", "ok", "snap 0 0; +1 2000000000000000")
	cube := "sum 1 - join 2 2 all docs join 2 2 pick 1,2 all docs pick 1,2 all docs"
	asks(t, s, 0, "sub 1 "+cube, "ok", "snap 1 0; +1 8000000000000000")
	for range 18 {
		say(t, s, 0, "put docs 1000000000000000 'a'")
		s.Drain(0, 3)
	}
	// 20 rows: 8000 times 10^15 is below 2^63; 21 rows: 9261 times 10^15 is 9185744073709551616 below 2^64.
	asks(t, s, 0, "put docs 1000000000000000 'a'", "ok", "delta 0 19; -1 20000000000000000; +1 21000000000000000", "delta 1 19; +1 -9185744073709551616; -1 8000000000000000000")
	asks(t, s, 0, "sub 2 keep lt 1 0 "+cube, "ok", "snap 2 0; +1 -9185744073709551616")
	asks(t, s, 0, "del docs 1000000000000000 'a'", "ok", "delta 0 20; +1 20000000000000000; -1 21000000000000000", "delta 1 20; -1 -9185744073709551616; +1 8000000000000000000", "delta 2 1; -1 -9185744073709551616")
}

// 32 to the power 11 times one row, then 31 to the power 11 times.
func TestRowsThatAreThereVeryOften(t *testing.T) {
	s, _ := New("t int", true, 8)
	s.Open(0, "root")
	for range api.MaxRows {
		say(t, s, 0, "put t 5")
	}
	s.Drain(0, api.MaxRows)
	joins := strings.Repeat("join 1 1 all t ", 7) + "all t"
	asks(t, s, 0, "sub 0 join 1 1 pick 1 "+joins+" join 1 1 all t join 1 1 all t all t", "ok", "snap 0 0; +36028797018963968 5 5 5 5")
	asks(t, s, 0, "del t 5", "ok", "delta 0 1; -10620320122559137 5 5 5 5")
	asks(t, s, 0, "put t 5", "ok", "delta 0 2; +10620320122559137 5 5 5 5")
}

// A view that changes by several ways at once is told of once.
func TestOneFrameForAllWays(t *testing.T) {
	s := start(t, true, 8, "root")
	asks(t, s, 0, "sub 0 count 2 both join 1 1 all docs all docs join 1 1 all docs all docs", "ok", "snap 0 0")
	asks(t, s, 0, "put docs 1 'a'", "ok", "delta 0 1; +1 'a' 2")
	asks(t, s, 0, "put docs 1 'a'", "ok", "delta 0 2; -1 'a' 2; +1 'a' 8")
	asks(t, s, 0, "del docs 1 'a'", "ok", "delta 0 3; +1 'a' 2; -1 'a' 8")
}

func TestSubscriptionsRise(t *testing.T) {
	s := start(t, true, 8, "root", "root")
	say(t, s, 0, "sub 3 all docs", "sub 1 all team", "sub 2 pick 1 all docs", "sub 0 count - all docs")
	hears(t, s, 0, "ok", "snap 3 0", "ok", "snap 1 0", "ok", "snap 2 0", "ok", "snap 0 0")
	asks(t, s, 1, "put docs 4 'x'", "ok")
	hears(t, s, 0, "delta 0 1; +1 1", "delta 2 1; +1 4", "delta 3 1; +1 4 'x'")
}

// Each frame of a subscription has the next number, whenever it is taken.
func TestNumbersRise(t *testing.T) {
	s := start(t, true, 1, "root")
	asks(t, s, 0, "sub 0 all docs", "ok", "snap 0 0")
	say(t, s, 0, "put docs 1 'a'", "del docs 1 'a'", "put docs 2 'a'")
	hears(t, s, 0, "ok", "ok", "ok", "reset 0 3; +1 2 'a'")
	asks(t, s, 0, "put team 'a' 'a'", "ok")
	asks(t, s, 0, "put docs 3 'a'", "ok", "delta 0 4; +1 3 'a'")
	asks(t, s, 0, "end 0", "ok")
	asks(t, s, 0, "sub 0 all team", "ok", "snap 0 0; +1 'a' 'a'")
	asks(t, s, 0, "put team 'a' 'b'", "ok", "delta 0 1; +1 'a' 'b'")
}

func TestEnd(t *testing.T) {
	s := start(t, true, 8, "root", "root")
	say(t, s, 0, "sub 0 all docs", "sub 1 all docs", "put docs 1 'a'", "end 0", "put docs 2 'a'", "end 0")
	hears(t, s, 0, "ok", "ok", "snap 1 0", "ok", "delta 1 1; +1 1 'a'", "ok", "ok", "delta 1 2; +1 2 'a'", "no 10")
	say(t, s, 0, "sub 0 all docs", "end 0", "sub 0 all team")
	hears(t, s, 0, "ok", "ok", "ok", "snap 0 0")
	say(t, s, 1, "sub 0 all docs", "end 0")
	hears(t, s, 1, "ok", "ok")
	asks(t, s, 0, "put team 'x' 'y'", "ok", "delta 0 1; +1 'x' 'y'")
	hears(t, s, 1)
}

// Views of subscriptions that have ended, in whichever way, are not brought up to date any more.
func TestEndedSubscriptionsAreNoWork(t *testing.T) {
	s := start(t, false, 8, "root")
	put, del := framed("put docs 1 'a'"), framed("del docs 1 'a'")
	work := func() float64 {
		return testing.AllocsPerRun(100, func() {
			s.Feed(0, put)
			s.Feed(0, del)
			s.Drain(0, 10)
		})
	}
	before := work()
	const view = "sub 0 count 2 join 1 1 all docs both all docs all docs"
	for range 20 {
		asks(t, s, 0, view, "ok", "snap 0 0")
		asks(t, s, 0, "end 0", "ok")
		s.Open(1, "root")
		asks(t, s, 1, view, "ok", "snap 0 0")
		s.Close(1)
		s.Open(1, "root")
		asks(t, s, 1, view, "ok", "snap 0 0")
		s.Feed(1, framed(""))
		s.Close(1)
	}
	if after := work(); after > before+10 {
		t.Errorf("%v pieces of memory are asked for, %v before", after, before)
	}
}

// Frames up to the room wait; with one more there is a reset in place of all.
func TestEveryRoom(t *testing.T) {
	for room := 1; room <= api.MaxRoom; room++ {
		s := start(t, true, room, "root", "root")
		say(t, s, 1, "sub 2 count - all docs", "sub 1 all team", "x")
		want := []string{"ok", "snap 2 0", "ok", "snap 1 0", "no 7"}
		for i := 1; i < room; i++ {
			say(t, s, 0, "put docs 1 'a'")
			want = append(want, "delta 2 "+strconv.Itoa(i)+"; "+counted(i))
		}
		hears(t, s, 1, want...)
		// As many as there is room for.
		for range room {
			say(t, s, 0, "put docs 1 'a'")
		}
		say(t, s, 1, "y")
		say(t, s, 0, "put docs 1 'a'", "put team 'a' 'b'")
		first := strconv.Itoa(2 * room)
		want = []string{"no 7", "reset 2 " + first + "; +1 " + first, "delta 1 1; +1 'a' 'b'"}
		hears(t, s, 1, want...)
	}
}

// counted is how a count of i rows tells that there is one more than before.
func counted(i int) string {
	now := "+1 " + strconv.Itoa(i)
	if i == 1 {
		return now
	}
	return "-1 " + strconv.Itoa(i-1) + "; " + now
}

// A frame that was taken makes room, one by one.
func TestTakenFramesMakeRoom(t *testing.T) {
	s := start(t, true, 2, "root", "root")
	say(t, s, 1, "sub 0 all docs")
	wantDrained(t, s, 1, 1, "ok")
	say(t, s, 0, "put docs 1 'a'")
	wantDrained(t, s, 1, 1, "snap 0 0")
	say(t, s, 0, "put docs 2 'a'")
	wantDrained(t, s, 1, 1, "delta 0 1; +1 1 'a'")
	say(t, s, 0, "put docs 3 'a'")
	say(t, s, 0, "put docs 4 'a'")
	wantDrained(t, s, 1, 1, "reset 0 4; +1 1 'a'; +1 2 'a'; +1 3 'a'; +1 4 'a'")
	say(t, s, 0, "put docs 5 'a'", "del docs 1 'a'")
	wantDrained(t, s, 1, 3, "delta 0 5; +1 5 'a'", "delta 0 6; -1 1 'a'")
}

// A view that is the same needs no room, and is not reset.
func TestNoResetOfAViewThatIsTheSame(t *testing.T) {
	s := start(t, true, 1, "root")
	say(t, s, 0, "sub 0 keep eq 1 1 all docs", "put docs 2 'a'", "put docs 3 'a'", "del docs 2 'a'", "put team 'a' 'a'")
	hears(t, s, 0, "ok", "snap 0 0", "ok", "ok", "ok", "ok")
}

// A view that is again what it was when it was told last has changed twice.
func TestThereAndBack(t *testing.T) {
	s := start(t, true, 8, "root")
	say(t, s, 0, "sub 0 all docs", "put docs 1 'a'", "del docs 1 'a'")
	hears(t, s, 0, "ok", "snap 0 0", "ok", "delta 0 1; +1 1 'a'", "ok", "delta 0 2; -1 1 'a'")
	s = start(t, true, 2, "root")
	say(t, s, 0, "sub 0 all docs", "put docs 1 'a'", "del docs 1 'a'")
	hears(t, s, 0, "ok", "ok", "ok", "reset 0 2")
}

// Without rules nobody but root sees anything, by whatever view, whoever they say they are.
func TestOthersSeeNothing(t *testing.T) {
	for _, share := range []bool{true, false} {
		s := start(t, share, 1, "root", "ann", "bob", "ann")
		say(t, s, 0, "put docs 1 'ann'", "put team 'ann' 'ann'")
		for session := 1; session <= 3; session++ {
			asks(t, s, session, "sub 0 all docs", "ok", "snap 0 0")
			asks(t, s, session, "sub 1 count - all docs", "ok", "snap 1 0")
			asks(t, s, session, "sub 2 both keep eq 2 me all team all team", "ok", "snap 2 0")
			asks(t, s, session, "sub 3 pick - join 2 1 all docs all team", "ok", "snap 3 0")
		}
		say(t, s, 0, "put docs 2 'ann'", "put team 'ann' 'bob'", "del docs 1 'ann'")
		for session := 1; session <= 3; session++ {
			hears(t, s, session)
		}
	}
}

// Sessions of one person and of several, with views of the same words.
func TestManySessions(t *testing.T) {
	for _, share := range []bool{true, false} {
		s := start(t, share, 8, "root", "ann", "root", "bob", "root", "ann", "root", "root")
		const view = "count 2 keep not eq 2 'c' all docs"
		for session := range api.MaxSessions {
			for number := range api.MaxSubs {
				n := strconv.Itoa(number)
				asks(t, s, session, "sub "+n+" "+view, "ok", "snap "+n+" 0")
			}
		}
		say(t, s, 2, "end 1", "end 2")
		s.Close(4)
		s.Feed(6, framed(""))
		hears(t, s, 2, "ok", "ok")
		hears(t, s, 6, "bye")
		say(t, s, 0, "put docs 1 'a'", "put docs 1 'c'", "put docs 2 'a'")
		for _, session := range []int{1, 3, 5, 6} {
			hears(t, s, session)
		}
		const a, b = " 1; +1 'a' 1", " 2; -1 'a' 1; +1 'a' 2"
		hears(t, s, 0, "ok", "delta 0"+a, "delta 1"+a, "delta 2"+a, "delta 3"+a, "ok", "ok", "delta 0"+b, "delta 1"+b, "delta 2"+b, "delta 3"+b)
		hears(t, s, 2, "delta 0"+a, "delta 3"+a, "delta 0"+b, "delta 3"+b)
		hears(t, s, 7, "delta 0"+a, "delta 1"+a, "delta 2"+a, "delta 3"+a, "delta 0"+b, "delta 1"+b, "delta 2"+b, "delta 3"+b)
	}
}

// Two servers that are used in turns know nothing of each other.
func TestTwoServersInTurns(t *testing.T) {
	one, two := start(t, true, 8, "root"), start(t, true, 1, "root")
	for _, s := range []*Server{one, two} {
		asks(t, s, 0, "sub 0 all docs", "ok", "snap 0 0")
	}
	asks(t, one, 0, "put docs 1 'a'", "ok", "delta 0 1; +1 1 'a'")
	asks(t, two, 0, "del docs 1 'a'", "no 10")
	one.Feed(0, Pack("put docs 2 'b'")[:10])
	asks(t, two, 0, "put docs 3 'c'", "ok", "delta 0 1; +1 3 'c'")
	one.Feed(0, Pack("put docs 2 'b'")[10:])
	hears(t, one, 0, "ok", "delta 0 2; +1 2 'b'")
	one.Feed(0, framed(""))
	hears(t, one, 0, "bye")
	one.Close(0)
	asks(t, two, 0, "put docs 3 'c'", "ok", "delta 0 2; +1 3 'c'")
}

func TestExampleFive(t *testing.T) {
	s := start(t, true, 2, "root", "ann")
	say(t, s, 0, "put docs 1 'red'", "put docs 2 'blue'", "put team 'red' 'ann'")
	hears(t, s, 0, "ok", "ok", "ok")
	asks(t, s, 1, "sub 0 all docs", "ok", "snap 0 0")
	asks(t, s, 0, "del docs 9 'red'", "no 10")
	asks(t, s, 0, "put docs 'x' 1", "no 12")
	asks(t, s, 0, "put x 1", "no 11")
	asks(t, s, 1, "put docs 1 'red'", "no 8")
	asks(t, s, 1, "hello", "no 7")
	asks(t, s, 1, "sub 0 all docs", "no 9")
	asks(t, s, 1, "sub 4 all docs", "no 7")
	asks(t, s, 1, "sub 1 all x", "no 3")
}

// Servers side by side are as one alone.
func TestServersSideBySide(t *testing.T) {
	bytes, answers := conversation()
	var group sync.WaitGroup
	for i := range 16 {
		group.Go(func() {
			s := start(t, i%2 == 0, 8, "root", "ann", "bob", "root")
			for session := 1; session <= 3; session++ {
				say(t, s, session, "sub 0 count 2 all docs", "sub 1 all docs")
			}
			s.Feed(0, bytes)
			hears(t, s, 0, answers...)
			hears(t, s, 1, "ok", "snap 0 0", "ok", "snap 1 0")
			hears(t, s, 3, "ok", "snap 0 0", "ok", "snap 1 0", "delta 0 1; +1 'a' 1", "delta 1 1; +1 1 'a'", "delta 0 2; -1 'a' 1", "delta 1 2; -1 1 'a'")
		})
	}
	group.Wait()
}

// And so with rules, where several have much to hear at once.
func TestServersWithRulesSideBySide(t *testing.T) {
	names := []string{"root", "ann", "bob", "eve", "ann", "bob", "a", "b"}
	history := func(share bool) string {
		s := start(t, share, 2, names...)
		for session := range names {
			say(t, s, session, "sub 0 all docs", "sub 1 count 2 join 2 1 all docs all team", "sub 2 both all docs all docs")
		}
		heard := ""
		for i, request := range append(append([]string{"law allow docs in 2 team 1 2;allow team any;mask docs 1 0 eq 2 me"}, seenRows...), "law allow docs any", "del docs 3 'x'", "law allow docs in 2 docs 2 2", "put docs 1 'bob'", "law") {
			say(t, s, 0, request)
			for session := range names {
				bytes, _ := s.Drain(session, i%4)
				heard += bytes
			}
		}
		return heard
	}
	want := history(true)
	var group sync.WaitGroup
	for i := range 16 {
		group.Go(func() {
			if got := history(i%2 == 0); got != want {
				t.Errorf("%q, want %q", got, want)
			}
		})
	}
	group.Wait()
}
