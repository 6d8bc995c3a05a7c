package marsh_test

import (
	"maps"
	"math/rand/v2"
	"regexp"
	"slices"
	"strconv"
	"strings"
	"testing"

	"sedge/api"
	"sedge/bed"
	"sedge/custom"
	"sedge/dole"
	"sedge/marsh"
	"sedge/rod"
	"sedge/thatch"
	"sedge/wader"
)

// forms are the kinds of lines by their first words, as expressions: NAME, Z for numbers
// that may be below 0, and N for others.
var forms = map[string]string{
	"parcel": "NAME( Z Z)+", "map": ".*", "spread": "", "mow": "", "custom": ".*", "drop": "N", "see": "Z Z N", "strip": "N N N", "bundles": "N", "roof": "N N N N N [01]",
	"area": "NAME", "inside": "NAME Z Z", "way": "N N", "holds": ".*", "steps": ".*", "share": "", "birds": "",
}

var questions = []string{"area", "inside", "way", "holds", "steps", "share", "birds"}

var expressions = compiled()

func compiled() map[string]*regexp.Regexp {
	out := map[string]*regexp.Regexp{}
	for word, form := range forms {
		if form != "" {
			form = " " + form
		}
		form = strings.NewReplacer("NAME", "[a-z]{1,8}", "N", "(0|[1-9][0-9]{0,5})", "Z", "(0|-?[1-9][0-9]{0,5})").Replace(form)
		out[word] = regexp.MustCompile("^" + word + form + "$")
	}
	return out
}

// wordOf is the first word of a line that is one of those of the chapter, or nothing.
func wordOf(line string) string {
	word := strings.Split(line, " ")[0]
	if x := expressions[word]; x == nil || len(line) > 150 || strings.Contains(line, "\n") || !x.MatchString(line) {
		return ""
	}
	return word
}

// numbersOf are the words of a line that are numbers.
func numbersOf(line string) []int {
	var out []int
	for _, word := range strings.Fields(line)[1:] {
		if n, err := strconv.Atoi(word); err == nil {
			out = append(out, n)
		}
	}
	return out
}

func postsOf(numbers []int) []api.XY {
	var out []api.XY
	for i := 0; i < len(numbers); i += 2 {
		out = append(out, api.XY{X: numbers[i], Y: numbers[i+1]})
	}
	return out
}

func rest(line string) string {
	return line[strings.Index(line, " ")+1:]
}

// ledger keeps the lines that were put, and finds all that a marsh has in them.
type ledger []string

// with are the lines that begin with a word.
func (l ledger) with(word string) []string {
	return slices.DeleteFunc(slices.Clone(l), func(line string) bool { return wordOf(line) != word })
}

func (l ledger) parcels() map[string][]api.XY {
	out := map[string][]api.XY{}
	for _, line := range l.with("parcel") {
		out[strings.Fields(line)[1]] = postsOf(numbersOf(line))
	}
	return out
}

func (l ledger) land() (m api.Map, is bool) {
	for _, line := range l {
		switch wordOf(line) {
		case "map":
			m, _ = bed.Parse(rest(line))
			is = true
		case "spread":
			m, _ = bed.Spread(m)
		case "mow":
			m, _ = bed.Mow(m)
		}
	}
	return m, is
}

func (l ledger) customs() []string {
	var out []string
	for _, line := range l {
		switch wordOf(line) {
		case "custom":
			out = append(out, rest(line))
		case "drop":
			n := numbersOf(line)[0]
			out = append(slices.Clone(out[:n]), out[n+1:]...)
		}
	}
	return out
}

func (l ledger) seen() []api.Sighting {
	var out []api.Sighting
	for _, line := range l.with("see") {
		n := numbersOf(line)
		out = append(out, api.Sighting{X: n[0], Y: n[1], T: n[2]})
	}
	return out
}

func (l ledger) strips() [][]int {
	out := make([][]int, 3)
	for _, line := range l.with("strip") {
		for c, n := range numbersOf(line) {
			out[c] = append(out[c], n)
		}
	}
	return out
}

func roofOf(line string) api.Roof {
	n := numbersOf(line)
	return api.Roof{Long: n[0], Wide: n[1], Pitch: api.Pitch{Rise: n[2], Run: n[3], Slope: n[4]}, Hip: n[5] > 0}
}

func (l ledger) stock() int {
	sum := 0
	for _, line := range l.with("bundles") {
		sum += numbersOf(line)[0]
	}
	for _, line := range l.with("roof") {
		n, _ := thatch.Needs(roofOf(line), 90)
		sum -= n
	}
	return sum
}

// squares is how many squares the lines have in a book.
func (l ledger) squares() int {
	sum := 0
	for _, line := range l {
		sum += (len(line) + 29) / 30
	}
	return sum
}

// answer is what Do of a line says: of a deed, the number is its answer.
func (l ledger) answer(line string) (string, api.Errno) {
	word := wordOf(line)
	if word == "" {
		return "", api.ErrCommand
	}
	if slices.Contains(questions, word) {
		return l.asked(word, line)
	}
	n, e := l.done(word, line)
	if e != api.OK {
		return "", e
	}
	return strconv.Itoa(n), api.OK
}

// next are the lines behind one that was done.
func (l ledger) next(line string) ledger {
	return append(slices.Clone(l), line)
}

// done is the answer to a deed, with its error.
func (l ledger) done(word, line string) (int, api.Errno) {
	switch word {
	case "parcel":
		return l.parcelDone(line)
	case "map":
		m, e := bed.Parse(rest(line))
		if e != api.OK {
			return 0, e
		}
		beds, _ := bed.Beds(m)
		return slices.Max(beds) + 1, api.OK
	case "spread", "mow":
		if _, is := l.land(); !is {
			return 0, api.ErrNone
		}
		m, _ := l.next(line).land()
		text, _ := bed.Format(m)
		return strings.Count(text, "r"), api.OK
	case "custom", "drop":
		return l.customDone(word, line)
	case "see":
		return wader.Fewest(l.next(line).seen(), 3)
	case "strip":
		if share, e := dole.Give(l.next(line).strips()); e != api.OK {
			return 0, e
		} else {
			return share[len(l.with("strip"))], api.OK
		}
	case "bundles":
		if n := l.next(line).stock(); n <= 1000000 {
			return n, api.OK
		}
		return 0, api.ErrLimit
	}
	n, e := thatch.Needs(roofOf(line), 90)
	if e == api.OK && l.stock() < n {
		return 0, api.ErrNone
	}
	return n, e
}

func (l ledger) parcelDone(line string) (int, api.Errno) {
	if _, is := l.parcels()[strings.Fields(line)[1]]; is {
		return 0, api.ErrThere
	}
	if len(l.parcels()) == 20 {
		return 0, api.ErrLimit
	}
	return rod.Area(postsOf(numbersOf(line)))
}

func (l ledger) customDone(word, line string) (int, api.Errno) {
	if word == "drop" && numbersOf(line)[0] >= len(l.customs()) {
		return 0, api.ErrNone
	}
	if word == "custom" {
		if b, e := custom.Parse(rest(line)); e != api.OK || len(b) != 1 {
			return 0, api.ErrForm
		}
	}
	b, e := custom.Parse(strings.Join(l.next(line).customs(), "; "))
	if e != api.OK {
		return 0, api.ErrBook
	}
	all, e := custom.All(b)
	return len(all), e
}

// asked is the answer to a question.
func (l ledger) asked(word, line string) (string, api.Errno) {
	n := numbersOf(line)
	switch word {
	case "area", "inside":
		posts, is := l.parcels()[strings.Fields(line)[1]]
		if !is {
			return "", api.ErrNone
		}
		if word == "area" {
			twice, _ := rod.Area(posts)
			return rod.FormatArea(twice / 2)
		}
		where, e := rod.Where(posts, api.XY{X: n[0], Y: n[1]})
		return strconv.Itoa(where), e
	case "way":
		m, is := l.land()
		if !is {
			return "", api.ErrNone
		}
		if way, e := bed.Way(m, n[0], n[1]); e != api.OK {
			return "", e
		} else {
			return strconv.Itoa(len(way) - 1), api.OK
		}
	case "holds", "steps":
		return l.held(word, rest(line))
	case "share":
		share, _ := dole.InTurn(l.strips())
		var words []string
		for _, c := range share {
			words = append(words, strconv.Itoa(c))
		}
		if words == nil {
			words = []string{"-"}
		}
		return strings.Join(words, " "), api.OK
	}
	birds, _ := wader.Birds(l.seen(), 3)
	rounds, _ := wader.Rounds(l.seen(), 3)
	return strconv.Itoa(len(birds)) + " " + strconv.Itoa(len(rounds)), api.OK
}

func (l ledger) held(word, text string) (string, api.Errno) {
	a, e := custom.Read(text)
	if e != api.OK {
		return "", e
	}
	b, _ := custom.Parse(strings.Join(l.customs(), "; "))
	if word == "steps" {
		n, e := custom.Round(b, a)
		if e != api.OK {
			return "", e
		}
		return strconv.Itoa(n), api.OK
	}
	is, e := custom.Follows(b, a)
	if e != api.OK {
		return "", e
	}
	return map[bool]string{true: "yes", false: "no"}[is], api.OK
}

// checkMarsh holds all that a marsh has against a ledger.
func checkMarsh(t *testing.T, m *marsh.Marsh, l ledger) {
	t.Helper()
	if lines := m.Lines(); !slices.Equal(lines, l) {
		t.Fatalf("Lines: %q, want %q", lines, l)
	}
	for _, name := range append(slices.Collect(maps.Keys(l.parcels())), "nowhere") {
		want := l.parcels()[name]
		if p, e := m.Parcel(name); !slices.Equal(p, want) || (e == api.OK) != (want != nil) || (e == api.ErrNone) != (want == nil) {
			t.Fatalf("Parcel of %s behind %q: %v, error %d", name, l, p, e)
		}
	}
	land, is := l.land()
	if n, has := m.Map(); has != is || n.W != land.W || n.H != land.H || !slices.Equal(n.Squares, land.Squares) {
		t.Fatalf("Map behind %q: %v, %v", l, n, has)
	}
	if text, e := custom.Format(m.Customs()); text != strings.Join(l.customs(), "; ") || e != api.OK {
		t.Fatalf("Customs behind %q: %q, error %d", l, text, e)
	}
	if s := m.Seen(); !slices.Equal(s, l.seen()) {
		t.Fatalf("Seen behind %q: %v", l, s)
	}
	if v := m.Strips(); len(v) != 3 || !slices.EqualFunc(v, l.strips(), slices.Equal) {
		t.Fatalf("Strips behind %q: %v", l, v)
	}
	if n := m.Stock(); n != l.stock() {
		t.Fatalf("Stock behind %q: %d", l, n)
	}
}

// number is a drawn number up to one, seldom a greater one or another word.
func number(r *rand.Rand, most int) string {
	switch r.IntN(60) {
	case 0:
		return strconv.Itoa(r.IntN(1000000))
	case 1:
		return []string{"", "-0", "00", "01", "1000000", "+1", "x", "1.0", "-", "999999", "1_0", "0x1"}[r.IntN(12)]
	}
	return strconv.Itoa(r.IntN(most + 1))
}

// signed is one that may be below 0.
func signed(r *rand.Rand, most int) string {
	if r.IntN(3) == 0 {
		return "-" + number(r, most)
	}
	return number(r, most)
}

func name(r *rand.Rand) string {
	if r.IntN(40) == 0 {
		return []string{"", "A", "abcdefgh", "abcdefghi", "a1", "é", "if"}[r.IntN(7)]
	}
	return string(rune('a' + r.IntN(26)))
}

// drawnMap is the text of a map, most often a right one.
func drawnMap(r *rand.Rand) string {
	w, h := 1+r.IntN(6), 1+r.IntN(6)
	var rows []string
	for range h {
		row := ""
		for range w {
			row += string("rrrwsp"[r.IntN(6)])
		}
		rows = append(rows, row)
	}
	if r.IntN(10) == 0 {
		rows[r.IntN(h)] += []string{"", "r", "x", " ", "/"}[r.IntN(5)]
	}
	return strings.Join(rows, "/")
}

// drawnArgs have so many words or variables.
func drawnAtom(r *rand.Rand, plain bool) string {
	arg := func() string {
		if !plain && r.IntN(2) == 0 {
			return string("XYZ"[r.IntN(3)])
		}
		return []string{"ann", "bob", "c", "d"}[r.IntN(4)]
	}
	switch r.IntN(12) {
	case 0:
		return []string{"p(ann", "p", "", "p(ann, bob, c)", "P(ann)", "p( ann)", "p(ann) "}[r.IntN(7)]
	case 1, 2, 3, 4:
		return "p(" + arg() + ")"
	}
	return []string{"far", "next", "q"}[r.IntN(3)] + "(" + arg() + ", " + arg() + ")"
}

func drawnClause(r *rand.Rand) string {
	switch r.IntN(12) {
	case 0:
		return drawnAtom(r, false) + " if " + drawnAtom(r, false) + " and " + drawnAtom(r, false)
	case 1, 2:
		return []string{"far(X, Y) if next(X, Y)", "far(X, Z) if far(X, Y) and far(Y, Z)", "p(X) if far(X, Y) and next(Y, Z)", "p(X) if q(X, X)", "p(a); p(b)", "p(a, b)", "p(u); p(v); p(w)"}[r.IntN(7)]
	case 3:
		return drawnAtom(r, false) + " if " + drawnAtom(r, false)
	}
	return drawnAtom(r, true)
}

// drawnLine is any line, most often a right one.
func drawnLine(r *rand.Rand) string {
	switch r.IntN(20) {
	case 0, 1:
		line := "parcel " + name(r)
		for range 3 + r.IntN(3)*r.IntN(2) - r.IntN(20)/19 {
			line += " " + signed(r, 9) + " " + signed(r, 9)
		}
		return line
	case 2:
		return "map " + drawnMap(r)
	case 3:
		return []string{"spread", "mow", "share", "birds"}[r.IntN(4)]
	case 4, 5, 6:
		return "custom " + drawnClause(r)
	case 7:
		return "drop " + number(r, 4)
	case 8, 9:
		return "see " + signed(r, 9) + " " + signed(r, 9) + " " + number(r, 9)
	case 10:
		return "strip " + number(r, 9) + " " + number(r, 9) + " " + number(r, 9)
	case 11:
		return "bundles " + number(r, []int{3000, 400000}[r.IntN(5)/4])
	case 12:
		pitch := []string{"3 4 5", "4 3 5", "5 12 13", "6 8 10", "3 4 6"}[r.IntN(5)]
		return "roof " + strconv.Itoa(2*r.IntN(30)) + " " + strconv.Itoa(2*r.IntN(10)) + " " + pitch + " " + []string{"0", "1", "1", "0", "2"}[r.IntN(5)]
	case 13:
		return "area " + name(r)
	case 14:
		return "inside " + name(r) + " " + signed(r, 9) + " " + signed(r, 9)
	case 15:
		return "way " + number(r, 12) + " " + number(r, 12)
	case 16:
		return "holds " + drawnAtom(r, r.IntN(4) > 0)
	case 17:
		return "steps " + drawnAtom(r, r.IntN(4) > 0)
	}
	return edited(r, drawnLine(r))
}

// edited is a line with one byte more or less, or another one.
func edited(r *rand.Rand, line string) string {
	i := r.IntN(len(line) + 1)
	if r.IntN(3) == 0 && i < len(line) {
		return line[:i] + line[i+1:]
	}
	bytes := "  0159-azAZ(),;/\n\t\r\x00\xff+."
	more := string([]byte{bytes[r.IntN(len(bytes))]})
	if r.IntN(2) == 0 && i < len(line) {
		return line[:i] + more + line[i+1:]
	}
	return line[:i] + more + line[i:]
}
