package veil

import (
	"cmp"
	"math/rand"
	"slices"
	"strconv"
	"strings"
	"testing"

	"veil/api"
)

// The model is a server by the words of the document: rows are lists of words, a table or a view is a list of rows, and each view is worked out anew behind each request and held against what it was.

type model struct {
	share    bool
	room     int
	law      string
	tables   map[string][][]string
	sessions map[int]*modelSession
}

type modelSession struct {
	who    string
	bytes  string
	broken bool
	frames []modelFrame
	subs   map[int]*modelSub
}

type modelFrame struct {
	sub     int // -1: of none
	payload string
}

type modelSub struct {
	view   string
	parts  []string // the words of each part that has a node
	frames int
	last   map[string]int
}

func newModel(share bool, room int) *model {
	return &model{share: share, room: room, tables: map[string][][]string{}, sessions: map[int]*modelSession{}}
}

func (m *model) Open(session int, who string) api.Errno {
	if session < 0 || session > 7 || m.sessions[session] != nil {
		return api.ErrSession
	}
	if who == "" || len(who) > 8 || strings.Trim(who, "abcdefghijklmnopqrstuvwxyz") != "" {
		return api.ErrName
	}
	m.sessions[session] = &modelSession{who: who, subs: map[int]*modelSub{}}
	return api.OK
}

func (m *model) Close(session int) api.Errno {
	if m.sessions[session] == nil {
		return api.ErrSession
	}
	delete(m.sessions, session)
	return api.OK
}

func (m *model) Feed(session int, bytes string) api.Errno {
	s := m.sessions[session]
	if s == nil {
		return api.ErrSession
	}
	if s.broken {
		return api.OK
	}
	payloads, taken, broken := unpacked(s.bytes + bytes)
	s.bytes = (s.bytes + bytes)[taken:]
	for _, payload := range payloads {
		m.request(s, payload)
	}
	if broken {
		s.broken = true
		s.frames = slices.DeleteFunc(s.frames, func(f modelFrame) bool { return f.sub >= 0 })
		s.subs = map[int]*modelSub{}
		s.frames = append(s.frames, modelFrame{-1, "bye"})
	}
	return api.OK
}

func (m *model) Drain(session int, most int) (string, api.Errno) {
	s := m.sessions[session]
	if s == nil {
		return "", api.ErrSession
	}
	bytes := ""
	for most > 0 && len(s.frames) > 0 {
		bytes += framed(s.frames[0].payload)
		s.frames = s.frames[1:]
		most--
	}
	return bytes, api.OK
}

func (m *model) request(s *modelSession, text string) {
	errno := m.do(s, text)
	if errno != 0 {
		s.frames = append(s.frames, modelFrame{-1, "no " + strconv.Itoa(errno)})
		return
	}
	s.frames = append(s.frames, modelFrame{-1, "ok"})
	for _, other := range m.sessions {
		for number := range 4 {
			m.tell(other, number)
		}
	}
}

func (m *model) do(s *modelSession, text string) int {
	words := strings.SplitN(text, " ", 3)
	words = append(words, "", "")
	switch words[0] {
	case "sub":
		if !slices.Contains([]string{"0", "1", "2", "3"}, words[1]) {
			return 7
		}
		number, _ := strconv.Atoi(words[1])
		if s.subs[number] != nil {
			return 9
		}
		if _, errno := oracleCheck(words[2]); errno != api.OK {
			return 3
		}
		s.subs[number] = &modelSub{view: words[2], parts: partsOf(words[2], s.who)}
		return 0
	case "end":
		if !slices.Contains([]string{"end 0", "end 1", "end 2", "end 3"}, text) {
			return 7
		}
		number, _ := strconv.Atoi(words[1])
		if s.subs[number] == nil {
			return 10
		}
		delete(s.subs, number)
		s.frames = slices.DeleteFunc(s.frames, func(f modelFrame) bool { return f.sub == number })
		return 0
	case "put", "del":
		if s.who != "root" {
			return 8
		}
		return m.write(words[0], words[1], strings.Split(words[2], " "))
	case "law":
		if s.who != "root" {
			return 8
		}
		law, more := strings.CutPrefix(text, "law ")
		if more && (law == "" || oracleLaw(law) != api.OK) {
			return 4
		}
		m.law = strings.TrimPrefix(text, "law")
		m.law = strings.TrimPrefix(m.law, " ")
		return 0
	}
	return 7
}

// seen is what one may see of a table, by each rule in turn.
func (m *model) seen(table, who string) [][]string {
	if who == "root" {
		return m.tables[table]
	}
	got := [][]string{}
	for _, row := range m.tables[table] {
		allowed, shown := false, slices.Clone(row)
		for _, rule := range strings.Split(m.law, ";") {
			words := strings.Split(rule, " ")
			if words[0] == "allow" && words[1] == table {
				holds, _ := m.holds(words[2:], row, who)
				allowed = allowed || holds
			}
			if words[0] == "mask" && words[1] == table {
				if holds, _ := m.holds(words[4:], row, who); !holds {
					shown[numberOf(words[2])-1] = words[3]
				}
			}
		}
		if allowed {
			got = append(got, shown)
		}
	}
	return got
}

func (m *model) Nodes() int {
	all, of := 0, map[string]int{}
	for _, s := range m.sessions {
		for _, sub := range s.subs {
			for _, part := range sub.parts {
				all++
				of[s.who+" "+part]++
			}
		}
	}
	if m.share {
		return len(tables) + len(of)
	}
	return len(tables) + all
}

// partsOf goes through the words of a view for operators. (No table has the name of one here.)
func partsOf(view, who string) []string {
	parts := []string{}
	for i, word := range strings.Split(view, " ") {
		if strings.Contains(" keep pick join both count sum ", " "+word+" ") || word == "all" && who != "root" {
			parts = append(parts, partAt(view, i))
		}
	}
	return parts
}

// partAt is the shortest run of words from the i-th one on that is a view.
func partAt(view string, i int) string {
	words := strings.Split(view, " ")
	for end := i + 1; end <= len(words); end++ {
		part := strings.Join(words[i:end], " ")
		if _, errno := oracleCheck(part); errno == api.OK {
			return part
		}
	}
	return "none"
}

func (m *model) write(word, table string, row []string) int {
	types := []string{}
	for _, value := range row {
		types = append(types, typeOfValue(value))
	}
	if tables[table] == nil {
		return 11
	}
	if !slices.Equal(types, tables[table]) {
		return 12
	}
	if word == "put" {
		if len(m.tables[table]) == 32 {
			return 13
		}
		m.tables[table] = append(m.tables[table], row)
		return 0
	}
	i := slices.IndexFunc(m.tables[table], func(r []string) bool { return slices.Equal(r, row) })
	if i < 0 {
		return 10
	}
	m.tables[table] = slices.Delete(m.tables[table], i, i+1)
	return 0
}

func (m *model) tell(s *modelSession, number int) {
	sub := s.subs[number]
	if sub == nil {
		return
	}
	now := map[string]int{}
	list, _ := m.rows(strings.Split(sub.view, " "), s.who)
	for _, row := range list {
		now[strings.Join(row, " ")]++
	}
	word, change := "snap", now
	if sub.last != nil {
		word, change = "delta", difference(now, sub.last)
		if len(change) == 0 {
			return
		}
	}
	waiting := 0
	for _, frame := range s.frames {
		if frame.sub == number {
			waiting++
		}
	}
	if waiting == m.room {
		word, change = "reset", now
		s.frames = slices.DeleteFunc(s.frames, func(f modelFrame) bool { return f.sub == number })
	}
	s.frames = append(s.frames, modelFrame{number, word + " " + strconv.Itoa(number) + " " + strconv.Itoa(sub.frames) + bagText(change)})
	sub.frames++
	sub.last = now
}

func difference(now, last map[string]int) map[string]int {
	change := map[string]int{}
	for row, times := range now {
		change[row] = times
	}
	for row, times := range last {
		change[row] -= times
		if change[row] == 0 {
			delete(change, row)
		}
	}
	return change
}

func bagText(bag map[string]int) string {
	list := []string{}
	for row := range bag {
		list = append(list, row)
	}
	slices.SortFunc(list, func(a, b string) int {
		return slices.CompareFunc(strings.Split(a, " "), strings.Split(b, " "), compareWords)
	})
	text := ""
	for _, row := range list {
		sign := "+"
		if bag[row] < 0 {
			sign = ""
		}
		text += strings.TrimSuffix("; "+sign+strconv.Itoa(bag[row])+" "+row, " ")
	}
	return text
}

func compareWords(a, b string) int {
	if strings.HasPrefix(a, "'") {
		return strings.Compare(strings.Trim(a, "'"), strings.Trim(b, "'"))
	}
	return cmp.Compare(numberOf(a), numberOf(b))
}

func numberOf(word string) int {
	number, _ := strconv.Atoi(word)
	return number
}

// rows works out the view with which words begin, and tells the words behind it.
func (m *model) rows(words []string, who string) ([][]string, []string) {
	switch words[0] {
	case "all":
		return m.seen(words[1], who), words[2:]
	case "keep":
		_, behind := m.holds(words[1:], nil, who)
		over, rest := m.rows(behind, who)
		kept := [][]string{}
		for _, row := range over {
			if holds, _ := m.holds(words[1:], row, who); holds {
				kept = append(kept, row)
			}
		}
		return kept, rest
	case "pick":
		over, rest := m.rows(words[2:], who)
		got := [][]string{}
		for _, row := range over {
			got = append(got, modelPick(row, words[1]))
		}
		return got, rest
	case "join":
		left, rest := m.rows(words[3:], who)
		right, rest := m.rows(rest, who)
		got := [][]string{}
		for _, l := range left {
			for _, r := range right {
				if at(l, words[1]) == at(r, words[2]) {
					got = append(got, slices.Concat(l, r))
				}
			}
		}
		return got, rest
	case "both":
		left, rest := m.rows(words[1:], who)
		right, rest := m.rows(rest, who)
		return slices.Concat(left, right), rest
	case "count":
		over, rest := m.rows(words[2:], who)
		return modelGroups(over, words[1], func([]string) int { return 1 }), rest
	}
	over, rest := m.rows(words[3:], who)
	return modelGroups(over, words[2], func(row []string) int { return numberOf(at(row, words[1])) }), rest
}

func at(row []string, col string) string { return row[numberOf(col)-1] }

func modelPick(row []string, cols string) []string {
	got := []string{}
	for _, col := range strings.Split(strings.TrimPrefix(cols, "-"), ",") {
		if col != "" {
			got = append(got, at(row, col))
		}
	}
	return got
}

func modelGroups(over [][]string, cols string, worth func([]string) int) [][]string {
	totals := map[string]int{}
	for _, row := range over {
		totals[strings.Join(append(modelPick(row, cols), ""), " ")] += worth(row)
	}
	got := [][]string{}
	for key, total := range totals {
		got = append(got, strings.Split(key+strconv.Itoa(total), " "))
	}
	return got
}

// holds tells whether the condition with which words begin holds for a row, and the words behind it; without a row these alone.
func (m *model) holds(words []string, row []string, who string) (bool, []string) {
	switch words[0] {
	case "any":
		return true, words[1:]
	case "not":
		holds, rest := m.holds(words[1:], row, who)
		return !holds, rest
	case "and", "or":
		first, rest := m.holds(words[1:], row, who)
		second, rest := m.holds(rest, row, who)
		if words[0] == "and" {
			return first && second, rest
		}
		return first || second, rest
	}
	if row == nil {
		return false, words[3:]
	}
	own := at(row, words[1])
	switch words[0] {
	case "in":
		found := slices.ContainsFunc(m.tables[words[2]], func(other []string) bool {
			return at(other, words[3]) == own && at(other, words[4]) == "'"+who+"'"
		})
		return found, words[5:]
	case "eq":
		return own == words[2] || words[2] == "me" && own == "'"+who+"'", words[3:]
	case "lt":
		return numberOf(own) < numberOf(words[2]), words[3:]
	}
	return own == at(row, words[2]), words[3:]
}

// served is what both the program and the model are.
type served interface {
	Open(session int, who string) api.Errno
	Close(session int) api.Errno
	Feed(session int, bytes string) api.Errno
	Drain(session int, most int) (string, api.Errno)
	Nodes() int
}

// pairOf is a server and a model that are told the same and must answer the same.
type pairOf struct {
	t      testing.TB
	server served
	model  served
	calls  []string
	heard  strings.Builder // all that was drained
}

func newPair(t testing.TB, share bool, room int) *pairOf {
	return &pairOf{t: t, server: start(t, share, room), model: newModel(share, room)}
}

func (p *pairOf) same(call string, ask func(s served) (string, api.Errno)) {
	p.t.Helper()
	p.calls = append(p.calls, call)
	got, errno := ask(p.server)
	want, wanted := ask(p.model)
	if got != want || errno != wanted {
		p.t.Fatalf("%s\n= %q, %d,\nwant %q, %d", strings.Join(p.calls, "\n"), got, errno, want, wanted)
	}
	if got, want := p.server.Nodes(), p.model.Nodes(); got != want {
		p.t.Fatalf("%s\n: %d nodes, want %d", strings.Join(p.calls, "\n"), got, want)
	}
	p.heard.WriteString(got)
}

func (p *pairOf) open(session int, who string) {
	p.same("Open "+strconv.Itoa(session)+" "+who, func(s served) (string, api.Errno) { return "", s.Open(session, who) })
}

func (p *pairOf) close(session int) {
	p.same("Close "+strconv.Itoa(session), func(s served) (string, api.Errno) { return "", s.Close(session) })
}

func (p *pairOf) feed(session int, bytes string) {
	p.same("Feed "+strconv.Itoa(session)+" "+strconv.Quote(bytes), func(s served) (string, api.Errno) { return "", s.Feed(session, bytes) })
}

func (p *pairOf) drain(session, most int) {
	p.same("Drain "+strconv.Itoa(session)+" "+strconv.Itoa(most), func(s served) (string, api.Errno) { return s.Drain(session, most) })
}

// rightView is a view that is one.
func (m maker) rightView() string {
	for {
		view := m.view(m.Intn(5))
		if _, errno := oracleCheck(view); errno == api.OK {
			return view
		}
	}
}

// rightLaw is a law that is one.
func (m maker) rightLaw() string {
	for {
		law := m.law()
		switch m.Intn(4) {
		case 0:
			law = "allow " + m.one("docs", "team") + " any;" + law
		case 1:
			law = "allow team " + m.one("or ", "and ") + m.look() + " " + m.look() + ";mask team 1 'x' " + m.look() + ";allow docs not " + m.look()
		}
		if oracleLaw(law) == api.OK {
			return law
		}
	}
}

// look is an `in` that may be right.
func (m maker) look() string {
	return "in " + m.one("1", "2") + " " + m.one("docs", "team", "team") + " " + m.one("1", "2") + " " + m.one("1", "2")
}

func (m maker) row() string {
	if m.Intn(2) == 0 {
		return "docs " + m.one("0", "5", "-7", "5") + " " + m.one("'x'", "''", "'ann'", "'x'")
	}
	return "team " + m.one("'x'", "''", "'bob'") + " " + m.one("'ann'", "'bob'", "'x'")
}

// write is a request of root.
func (m maker) write() string {
	switch m.Intn(14) {
	case 0, 1, 2, 3, 4, 5:
		return "put " + m.row()
	case 6, 7, 8, 9:
		return "del " + m.row()
	case 10, 11:
		return "law " + m.rightLaw()
	case 12:
		return m.one("law", "law ", "law x", "law "+m.spoil(m.law()), "law allow docs any;allow team any")
	}
	return m.one("put docs 1", "put", "del docs x", "put x 1", m.spoil("put "+m.row()))
}

func (m maker) request() string {
	number := m.one("0", "1", "2", "3")
	switch m.Intn(10) {
	case 0, 1, 2, 3, 4:
		return "sub " + number + " " + m.rightView()
	case 5, 6:
		return "end " + number
	case 7:
		return "sub " + m.one(number, "4") + " " + m.spoil(m.view(m.Intn(3)))
	case 8:
		return m.one("x", "sub", "end", "end 0 ", " ", "sub 0")
	}
	return m.write()
}

// live does some random thing to both.
func (m maker) live(p *pairOf, rest map[int]string) {
	session := m.Intn(4)
	switch m.Intn(20) {
	case 0:
		p.open(m.Intn(10)-1, m.one("root", "ann", "ann", "bob", "", "Ann"))
	case 1:
		if m.Intn(4) == 0 {
			p.close(session)
			rest[session] = ""
		}
	case 2, 3, 4, 5:
		p.drain(session, m.Intn(12)-1)
	case 6:
		if m.Intn(10) == 0 {
			p.feed(session, m.one("\x00\x00\x00\x00", "hello", framed(""), "\x00\x00\x03\xe9"))
		}
	case 7:
		p.drain(session, 1000)
	default:
		request := m.request()
		if m.Intn(2) == 0 {
			session, request = 0, m.write()
		}
		bytes := rest[session] + framed(request)
		cut := len(bytes)
		if m.Intn(3) == 0 {
			cut = m.Intn(len(bytes))
		}
		p.feed(session, bytes[:cut])
		rest[session] = bytes[cut:]
	}
}

func TestServersAgainstTheModel(t *testing.T) {
	m := maker{rand.New(rand.NewSource(3))}
	heard := map[string]int{}
	for round := range 300 {
		p := newPair(t, m.Intn(2) == 0, 1+m.Intn(api.MaxRoom))
		rest := map[int]string{}
		for i, who := range []string{"root", "ann", "bob", "ann"} {
			p.open(i, who)
		}
		for range 10 + 4*round {
			m.live(p, rest)
		}
		for session := range api.MaxSessions {
			p.drain(session, 100000)
		}
		for _, word := range []string{"snap ", "delta ", "reset ", "bye", "ok", "no 3", "no 4", "no 7", "no 8", "no 9", "no 10", "no 11", "no 12"} {
			heard[word] += strings.Count(p.heard.String(), word)
		}
	}
	for word, times := range heard {
		if times < 100 {
			t.Errorf("%q is heard %d times only: too few to tell", word, times)
		}
	}
}

// FuzzServer takes lines for requests, the first byte of each for the session.
func FuzzServer(f *testing.F) {
	for _, text := range []string{
		"0sub 0 all docs\n1put docs 1 'a'\n0del docs 1 'a'\n1sub 3 count - all docs",
		"0sub 0 join 1 1 all docs all docs\n0put docs 5 'x'\n0put docs 5 'x'\n0end 0\n2put docs 1 'a'",
		"2sub 1 all docs\n1law allow docs any\n0\n0put docs 1 'a'\n0law",
		"1sub 0 join 2 1 all docs all team\n0law allow docs in 2 team 1 2;mask docs 1 0 eq 2 'x';allow team any\n0put docs 1 'x'\n0put team 'x' 'ann'\n2sub 0 both all docs all docs\n0del team 'x' 'ann'",
		"0law allow docs in 2 docs 2 2;mask docs 2 '' in 2 docs 2 2\n1sub 3 sum 1 2 all docs\n0put docs 4 'ann'\n0put docs 4 'ann'\n0del docs 4 'ann'\n2sub 1 count - all docs\n0law ",
	} {
		f.Add(text, uint8(2))
		f.Add(text, uint8(9))
	}
	f.Fuzz(func(t *testing.T, text string, size uint8) {
		p := newPair(t, size%2 == 0, 1+int(size)%api.MaxRoom)
		for i, who := range []string{"root", "ann", "bob", "ann"} {
			p.open(i, who)
		}
		for _, line := range strings.SplitN(text, "\n", 40) {
			if line == "" {
				continue
			}
			session := int(line[0]) - '0'
			bytes := framed(line[1:])
			cut := min(int(size), len(bytes))
			p.feed(session, bytes[:cut])
			p.feed(session, bytes[cut:])
		}
		for session := range 4 {
			p.drain(session, int(size)/16)
			p.drain(session, 1000)
		}
	})
}
