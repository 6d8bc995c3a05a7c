package marsh_test

import (
	"math/rand/v2"
	"slices"
	"strconv"
	"strings"
	"testing"

	"sedge/api"
	"sedge/marsh"
)

// script does lines, each with its answer, or with the number of its error behind a !.
func script(t *testing.T, m *marsh.Marsh, lines ...string) {
	t.Helper()
	for i := 0; i < len(lines); i += 2 {
		line, want, err := lines[i], lines[i+1], api.OK
		if text, is := strings.CutPrefix(want, "!"); is {
			n, _ := strconv.Atoi(text)
			want, err = "", api.Errno(n)
		}
		before := m.Lines()
		got, e := m.Do(line)
		if got != want || e != err {
			t.Errorf("Do(%q): %q, error %d; want %q, error %d", line, got, e, want, err)
		}
		if e == api.OK && !slices.Contains(questions, wordOf(line)) {
			before = append(before, line)
		}
		if l := m.Lines(); !slices.Equal(l, before) {
			t.Errorf("Lines behind %q: %q", line, l)
		}
	}
}

func freshMarsh(t *testing.T) *marsh.Marsh {
	t.Helper()
	return openMarsh(t, newBoard(t, 300))
}

// P10.5: parcels.
func TestParcelLine(t *testing.T) {
	m := freshMarsh(t)
	script(t, m,
		"parcel a 0 0 4 0 4 3", "12", "parcel abcdefgh -1000 -1000 1000 -1000 1000 1000 -1000 1000", "8000000", "parcel b -1 0 1 0 0 2", "4",
		"parcel a 0 0 1 0 0 1", "!6", "parcel a 0 0", "!6", "parcel b 0 0 1 0 2 0", "!6", "parcel c 0 0 1 0 2 0", "!10", "parcel c 0 0", "!10", "parcel c 0 0 1 0", "!10", "parcel c 0 0 1001 0 0 1", "!10", "parcel c 0 0 999999 0 0 1", "!10", "parcel c 0 0 1 -999999 0 1", "!10",
		"parcel c", "!100", "parcel c ", "!100", "parcel c 0", "!100", "parcel c 0 0 1", "!100", "parcel c 0 0 1 0 0", "!100", "parcel", "!100", "parcel ", "!100", "parcel  0 0 1 0 0 1", "!100", "parcel abcdefghi 0 0 1 0 0 1", "!100", "parcel C 0 0 1 0 0 1", "!100", "parcel c1 0 0 1 0 0 1", "!100", "parcel 0 0 1 0 0 1", "!100",
		"parcel c 0 0 1 0 0 1 ", "!100", "parcel c 0  0 1 0 0 1", "!100", " parcel c 0 0 1 0 0 1", "!100", "parcel c 0 0 1 0 0 1000000", "!100", "parcel c 0 0 1 0 0 -1000000", "!100", "parcel c 0 0 1 0 0 -0", "!100", "parcel c 0 0 1 0 0 01", "!100", "parcel c 0 0 1 0 0 +1", "!100", "parcel c 0 0 1 0 0 --1", "!100", "parcel c 0 0 1 0 0 -", "!100", "parcel c 0 0 1 0 0 x", "!100", "parcel a 0 0 1 0 0 x", "!100", "parcel c 0 0 1 0 0 1\n", "!100", "parcel c 0 0 1 0 0\n1", "!100", "Parcel c 0 0 1 0 0 1", "!100", "parcels c 0 0 1 0 0 1", "!100", "parcel c 0 0 1 0 ..", "!100",
		"area a", "6p", "area b", "2p", "area abcdefgh", "25000a", "area c", "!5", "area", "!100", "area ", "!100", "area a ", "!100", "area a b", "!100", "area A", "!100", "area abcdefghi", "!100", "area  a", "!100",
		"inside a 2 1", "1", "inside a 0 0", "0", "inside a 2 0", "0", "inside a -1 0", "-1", "inside a 1 1", "-1", "inside abcdefgh -999 999", "1", "inside a 999999 -999999", "-1", "inside c 0 0", "!5", "inside a 0", "!100", "inside a 0 0 0", "!100", "inside a 0 1000000", "!100", "inside a -0 0", "!100", "inside A 0 0", "!100", "inside a", "!100", "inside", "!100",
	)
	checkMarsh(t, m, m.Lines())
}

// P10.5: the area is twice the area in perches, the answer to a question half of it,
// rounded down.
func TestHalfAreas(t *testing.T) {
	script(t, freshMarsh(t),
		"parcel a 0 0 1 0 0 1", "1", "area a", "0p", "parcel b 0 0 3 0 0 1", "3", "area b", "1p", "parcel c 0 0 81 0 0 1", "81", "area c", "1r", "parcel d 0 0 1000 0 1000 1 0 1", "2000", "area d", "6a 1r", "parcel e 0 0 1 0 1 4 0 3", "7", "area e", "3p",
	)
}

// P10.5: as many parcels as there may be: then ErrThere comes ahead of ErrLimit, and
// this ahead of what is wrong with a parcel.
func TestManyParcels(t *testing.T) {
	m := freshMarsh(t)
	for i := range 20 {
		script(t, m, "parcel p"+string(rune('a'+i))+" 0 0 1 0 0 "+strconv.Itoa(i+1), strconv.Itoa(i+1))
	}
	script(t, m, "parcel q 0 0 1 0 0 1", "!4", "parcel q 0 0 1 0 2 0", "!4", "parcel q 0 0", "!4", "parcel pa 0 0 1 0 0 1", "!6", "parcel pt 0 0", "!6", "parcel q 0 0 1 0 0 x", "!100", "area pt", "10p", "area q", "!5")
	checkMarsh(t, m, m.Lines())
}

// P10.5: maps, and what becomes of them.
func TestMapLine(t *testing.T) {
	m := freshMarsh(t)
	script(t, m,
		"spread", "!5", "mow", "!5", "way 0 0", "!5", "map rx", "!3", "map ", "!3", "map", "!100", "map r ", "!3", "map  r", "!3", "map r r", "!3", "map r/", "!3", "map rr/r", "!3", "map R", "!3", "map \xff", "!3", " map r", "!100", "map\tr", "!100", "map r\n", "!100", "map x\n", "!100", "spread", "!5",
		"map rrr/rwr/rrr", "1", "way 0 8", "4", "way 0 0", "0", "way 8 0", "4", "way 0 4", "!2", "way 4 0", "!2", "way 0 9", "!2", "way 999999 0", "!2", "way 0 1000000", "!100", "way -1 0", "!100", "way 0 -1", "!100", "way 0", "!100", "way", "!100", "way 0 1 2", "!100", "way 00 1", "!100", "mow", "8", "spread", "8", "mow ", "!100", "spread ", "!100", "mow 1", "!100",
		"map wwww", "0", "spread", "0", "mow", "0", "way 0 1", "!2", "map rwr", "2", "way 0 2", "!5", "mow", "0", "way 0 0", "0", "spread", "0",
		"map rps/srp", "2", "spread", "4", "spread", "4", "map prs/rpr/srp", "4", "spread", "9", "mow", "9", "map rrr/rpp/rpp", "1", "spread", "6", "spread", "8", "spread", "9", "spread", "9", "map rrr/ppp", "1", "mow", "1", "mow", "0", "map r/w/r/w/r", "3", "map xx", "!3", "mow", "0",
		"map "+strings.Repeat("r", 30), "1", "map "+strings.Repeat("r", 31), "!3", "map "+strings.TrimSuffix(strings.Repeat("r/", 30), "/"), "1", "way 0 29", "29",
	)
	checkMarsh(t, m, m.Lines())
}

// P10.4: lines of up to 150 bytes.
func TestLongLines(t *testing.T) {
	m := freshMarsh(t)
	rows := strings.TrimSuffix(strings.Repeat(strings.Repeat("r", 20)+"/", 7), "/")
	script(t, m,
		"map "+rows, "1", "map "+rows+"r", "!100", "map "+rows[1:]+"x", "!3", "map "+strings.Repeat("x", 146), "!3", "map "+strings.Repeat("x", 147), "!100", "holds "+strings.Repeat("x", 144), "!3", "holds "+strings.Repeat("x", 145), "!100", "custom "+strings.Repeat("x", 143), "!3", "custom "+strings.Repeat("x", 144), "!100", "steps "+strings.Repeat("é", 72), "!3", "steps "+strings.Repeat("é", 73), "!100",
		strings.Repeat("x", 1<<20), "!100", "map "+strings.Repeat("r", 1<<20), "!100", strings.Repeat(" ", 150), "!100", strings.Repeat("-", 150), "!100", "bundles "+strings.Repeat("0", 142), "!100", "area "+strings.Repeat("a", 145), "!100",
	)
	posts := strings.Repeat(" 0", 70)
	script(t, m, "parcel abc"+posts, "!10", "parcel abcd"+posts, "!100", "parcel a"+posts+" 1", "!100", "parcel abc"+posts[2:], "!100")
}

// P10.5, P10.6: customs.
func TestCustomLine(t *testing.T) {
	m := freshMarsh(t)
	script(t, m,
		"drop 0", "!5", "holds house(ann)", "no", "steps house(ann)", "!5", "custom house(ann)", "1", "custom right(X) if house(X)", "2", "holds right(ann)", "yes", "holds house(ann)", "yes", "holds right(bob)", "no", "holds right(ann, ann)", "no", "holds other(ann)", "no", "steps right(ann)", "2", "steps house(ann)", "1", "steps right(bob)", "!5",
		"custom p(X)", "!3", "custom p(a); p(b)", "!3", "custom ", "!3", "custom", "!100", "custom p(a) ", "!3", "custom  p(a)", "!3", "custom p(a)\n", "!100", "custom x\n", "!100", "custom p(a,b)", "!3", "custom right(a, b)", "!90", "custom q(X) if right(X, X)", "!90", "custom p(a) if p(a, a)", "!3", "custom p(a); right(a, b)", "!3",
		"holds right(X)", "!91", "holds right", "!3", "holds ", "!3", "holds", "!100", "holds right(ann) ", "!3", "holds house(ann); house(bob)", "!3", "holds right(ann)\n", "!100", "steps right(X)", "!91", "steps right", "!3", "steps ", "!3", "steps", "!100", "steps other(ann)", "!5",
		"drop 2", "!5", "drop 999999", "!5", "drop 1000000", "!100", "drop -1", "!100", "drop 00", "!100", "drop", "!100", "drop 0 1", "!100", "drop x", "!100",
		"custom house(bob)", "4", "drop 1", "2", "holds right(bob)", "no", "custom left(X) if house(X)", "4", "drop 0", "2", "holds left(ann)", "no", "holds left(bob)", "yes", "drop 1", "1", "drop 0", "0", "drop 0", "!5", "custom right(a, b)", "1", "custom right(X, Z) if right(X, Y) and right(Y, Z)", "1", "custom right(b, c)", "3", "custom right(c, d)", "6", "steps right(a, d)", "3", "custom right(c, d)", "6", "drop 3", "6", "drop 3", "3",
	)
	checkMarsh(t, m, m.Lines())
}

// P10.5: as many customs, and as many words, as there may be.
func TestManyCustoms(t *testing.T) {
	m := freshMarsh(t)
	for range 20 {
		script(t, m, "custom p(X) if q(X)", "0", "custom q(X, Y) if q(X, Y)", "!90", "custom p(X) if q(X, X)", "!90")
	}
	script(t, m, "custom p(X) if q(X)", "!90", "custom q(X) if p(X)", "!90", "custom p(a)", "!90", "custom p(X)", "!3", "drop 20", "!5", "drop 19", "0", "custom p(a)", "1", "custom p(a)", "!90")
	checkMarsh(t, m, m.Lines())
	m = freshMarsh(t)
	for i := range 8 {
		script(t, m, "custom p("+string(rune('a'+i))+")", strconv.Itoa(i+1))
	}
	script(t, m, "custom p(i)", "!90", "custom p(X) if q(X, i)", "!90", "custom q(X, h) if p(X)", "16", "drop 0", "14", "custom p(i)", "16", "custom p(a)", "!90", "holds q(i, h)", "yes", "holds p(a)", "no")
	checkMarsh(t, m, m.Lines())
}

// P10.5, P10.6: sightings, with the speed 3.
func TestSeeLine(t *testing.T) {
	m := freshMarsh(t)
	script(t, m,
		"birds", "0 0", "see 0 0 0", "1", "see 3 0 1", "1", "birds", "1 2", "see 9 0 2", "2", "birds", "2 2", "see 7 0 3", "2", "birds", "2 3", "see -1000 1000 10000", "2", "birds", "2 4", "see 0 0 0", "2", "birds", "2 5",
		"see 0 0 10001", "!60", "see 1001 0 0", "!60", "see -1001 0 0", "!60", "see 0 1001 0", "!60", "see 0 -999999 0", "!60", "see 0 0 999999", "!60", "see 0 0 1000000", "!100", "see 0 0 -1", "!100", "see -0 0 1", "!100", "see 0 0", "!100", "see 0 0 0 0", "!100", "see", "!100", "see 0 0 x", "!100", "see 0  0", "!100", "birds ", "!100", "birds 1", "!100", "birds", "2 5",
	)
	checkMarsh(t, m, m.Lines())
	m = freshMarsh(t)
	for i := range 30 {
		script(t, m, "see "+strconv.Itoa(100*(i%5))+" 0 "+strconv.Itoa(i/5), strconv.Itoa(min(i+1, 5)))
	}
	script(t, m, "birds", "5 6", "see 0 0 0", "!60", "see 0 0 10001", "!60")
	checkMarsh(t, m, m.Lines())
}

// P10.5, P10.6: strips.
func TestStripLine(t *testing.T) {
	m := freshMarsh(t)
	script(t, m,
		"share", "-", "strip 5 4 1", "0", "strip 5 5 5", "1", "strip 1 2 3", "2", "share", "0 1 2", "strip 0 0 0", "0", "share", "0 1 2 0", "strip 1000 0 9", "0", "share", "0 1 2 1 0",
		"strip 1 2 1001", "!70", "strip 1001 2 3", "!70", "strip 1 1001 3", "!70", "strip 999999 0 0", "!70", "strip 1 2", "!100", "strip 1 2 3 4", "!100", "strip -1 2 3", "!100", "strip 1 2 -3", "!100", "strip 1 2 1000000", "!100", "strip", "!100", "strip 1 2 x", "!100", "share ", "!100", "share 0", "!100",
	)
	checkMarsh(t, m, m.Lines())
	m = freshMarsh(t)
	for i := range 12 {
		script(t, m, "strip "+strconv.Itoa(i)+" 1000 7", strconv.Itoa([]int{0, 1, 2}[i%3]))
	}
	script(t, m, "strip 0 0 0", "!70", "strip 0 0 1001", "!70")
	checkMarsh(t, m, m.Lines())
}

// P10.5: bundles, and roofs that take them.
func TestStockLines(t *testing.T) {
	m := freshMarsh(t)
	script(t, m,
		"roof 40 24 3 4 5 1", "!5", "bundles 0", "0", "bundles 1079", "1079", "roof 40 24 3 4 5 1", "!5", "bundles 1", "1080", "roof 40 24 3 4 5 1", "1080", "roof 40 24 3 4 5 0", "!5", "bundles 2000", "2000", "roof 40 24 3 4 5 0", "1080", "bundles 0", "920", "roof 2 2 3 4 5 0", "5", "roof 2 2 4 3 5 1", "6", "bundles 0", "909",
		"roof 40 24 3 4 5 2", "!100", "roof 40 24 3 4 6 2", "!100", "roof 40 24 3 4 5 -1", "!100", "roof 40 24 3 4 5 00", "!100", "roof 40 24 3 4 5 10", "!100", "roof 40 24 3 4 5", "!100", "roof 40 24 3 4 5 1 1", "!100", "roof -40 24 3 4 5 1", "!100", "roof", "!100", "roof 40 24 3 4 5 x", "!100", "roof 40 24 3 4 5 1 ", "!100",
		"roof 40 24 3 4 6 1", "!80", "roof 24 40 3 4 5 1", "!80", "roof 41 24 3 4 5 1", "!80", "roof 402 24 3 4 5 0", "!80", "roof 40 0 3 4 5 0", "!80", "roof 999999 999999 999999 999999 999999 0", "!80", "roof 400 400 3 4 5 0", "!5", "roof 400 400 3 4 6 0", "!80",
		"bundles 999091", "1000000", "bundles 0", "1000000", "bundles 1", "!4", "bundles 999999", "!4", "roof 400 400 3 4 5 1", "180000", "bundles 180001", "!4", "bundles 180000", "1000000", "bundles 1000000", "!100", "bundles -1", "!100", "bundles", "!100", "bundles 1 1", "!100", "bundles 01", "!100", "bundles x", "!100", "bundles  1", "!100",
	)
	if n := m.Stock(); n != 1000000 {
		t.Errorf("Stock: %d", n)
	}
	checkMarsh(t, m, m.Lines())
}

// P10.4, P10.5: lines of no kind.
func TestNoLine(t *testing.T) {
	m := freshMarsh(t)
	script(t, m, "map r", "1")
	for word := range forms {
		for _, line := range []string{word + "\n", "\n" + word, " " + word, strings.ToUpper(word), word + "x", word[1:], word + " \n", word + "\x00", word + "\t", word + "  "} {
			if wordOf(line) == "" {
				script(t, m, line, "!100")
			}
		}
	}
	script(t, m, "", "!100", " ", "!100", "\n", "!100", "go", "!100", "T", "!100", "NAME", "!100", "spread mow", "!100", "spreadmow", "!100", "mow spread", "!100", "\xff", "!100", "é", "!100", "mow\r", "!100")
	checkMarsh(t, m, ledger{"map r"})
}

// P10.5, P10.6: all lines with one byte more or less, or another one, against the
// expressions of the tests.
func TestEditedLines(t *testing.T) {
	t.Parallel()
	first := ledger{"parcel a 0 0 4 0 4 3", "map rrr/rwr/rrp", "custom house(ann)", "custom right(X) if house(X)", "see 1 2 3", "strip 5 4 1", "bundles 2000"}
	b := newBoard(t, 300)
	m := openMarsh(t, b)
	for _, line := range first {
		script(t, m, line, answerOf(t, m, line))
	}
	for _, line := range append(slices.Clone(first), "parcel b -1 0 1 0 0 -20", "spread", "mow", "custom right(bob)", "drop 10", "see -10 20 100", "strip 10 0 999", "bundles 999999", "roof 40 24 3 4 5 1", "roof 40 24 3 4 5 0", "area a", "inside a -2 10", "way 0 8", "way 10 2", "holds right(ann)", "steps right(ann)", "share", "birds") {
		lines := []string{line}
		for i := range len(line) + 1 {
			for _, c := range " 0129-aAzr(X),;/\n\t+.\x00" {
				lines = append(lines, line[:i]+string(c)+line[i:])
				if i < len(line) {
					lines = append(lines, line[:i]+string(c)+line[i+1:])
				}
			}
			if i < len(line) {
				lines = append(lines, line[:i]+line[i+1:])
			}
		}
		m, l := openMarsh(t, b.Copy()), first
		for _, line := range lines {
			want, err := l.answer(line)
			got, e := m.Do(line)
			if got != want || e != err {
				t.Errorf("Do(%q): %q, error %d; want %q, error %d", line, got, e, want, err)
			}
			if e == api.OK && !slices.Contains(questions, wordOf(line)) {
				m = openMarsh(t, b.Copy())
			}
		}
		checkMarsh(t, m, l)
	}
}

// answerOf is what a ledger of the lines of a marsh says about one more line.
func answerOf(t *testing.T, m *marsh.Marsh, line string) string {
	t.Helper()
	answer, e := ledger(m.Lines()).answer(line)
	if e != api.OK {
		return "!" + strconv.Itoa(int(e))
	}
	return answer
}

// run is a marsh on a board, with the ledger of what it has.
type run struct {
	t      *testing.T
	r      *rand.Rand
	b      *marsh.Board
	m      *marsh.Marsh
	l      ledger
	counts map[api.Errno]int
}

// step does a line while nothing is armed.
func (d *run) step(line string) {
	want, err := d.l.answer(line)
	isDeed := !slices.Contains(questions, wordOf(line))
	if err == api.OK && isDeed && d.l.next(line).squares() > d.b.Squares() {
		want, err = "", api.ErrFull
	}
	got, e := d.m.Do(line)
	if got != want || e != err {
		d.t.Fatalf("Do(%q) behind %q: %q, error %d; want %q, error %d", line, d.l, got, e, want, err)
	}
	if e == api.OK && isDeed {
		d.l = d.l.next(line)
	}
	d.counts[e]++
}

// burn does a line with one of its calls failing, and opens the marsh again behind a
// fire.
func (d *run) burn(line string) {
	want, err := d.l.answer(line)
	squares := d.l.squares()
	n := 1 + d.r.IntN((len(line)+29)/30+1)
	if err == api.OK && !slices.Contains(questions, wordOf(line)) {
		want, err = "", api.ErrDown
		if d.l.next(line).squares() > d.b.Squares() {
			err = api.ErrFull
		}
	}
	d.b.Arm(n)
	got, e := d.m.Do(line)
	if got != want || e != err || d.b.Down() != (e == api.ErrDown) {
		d.t.Fatalf("Do(%q) behind %q with the call %d failing: %q, error %d; want %q, error %d", line, d.l, n, got, e, want, err)
	}
	checkMarsh(d.t, d.m, d.l)
	var keep []int
	for i := range n - 1 {
		if d.r.IntN(3) > 0 {
			keep = append(keep, squares+i)
		}
	}
	d.b.Fire(keep)
	for _, line := range []string{"birds", "share", "bundles 1", "", line} {
		if got, err := d.m.Do(line); got != "" || err != api.ErrDead {
			d.t.Fatalf("Do(%q) behind a fire: %q, error %d", line, got, err)
		}
	}
	checkMarsh(d.t, d.m, d.l)
	if e == api.ErrDown && len(keep) == (len(line)+29)/30 {
		d.l = d.l.next(line)
		d.counts[-1]++
	}
	d.m = openMarsh(d.t, d.b)
	d.counts[e]++
}

// P10.4 to P10.9: drawn lines, with fires, and with copies that are opened anew.
func TestLinesDrawn(t *testing.T) {
	t.Parallel()
	r := rand.New(rand.NewPCG(10, 4))
	counts := map[api.Errno]int{}
	for range 80 {
		b := newBoard(t, 4+r.IntN(120))
		d := &run{t, r, b, openMarsh(t, b), nil, counts}
		for i := range 150 {
			line := drawnLine(r)
			if r.IntN(12) == 0 {
				d.burn(line)
			} else {
				d.step(line)
			}
			if i%10 == 0 {
				checkMarsh(t, d.m, d.l)
				checkMarsh(t, openMarsh(t, b.Copy()), d.l)
			}
		}
		checkMarsh(t, d.m, d.l)
		b.Arm(1) // Open writes nothing
		checkMarsh(t, openMarsh(t, b), d.l)
	}
	for _, e := range []api.Errno{-1, api.OK, api.ErrArg, api.ErrForm, api.ErrLimit, api.ErrNone, api.ErrThere, api.ErrParcel, api.ErrRoof, api.ErrBook, api.ErrAtom, api.ErrCommand, api.ErrDown, api.ErrFull} {
		if counts[e] < 5 {
			t.Errorf("the error %d came %d times", e, counts[e])
		}
	}
}

// P10.8: the stock, the birds that never fall, and what holds ahead of a custom.
func TestDeeds(t *testing.T) {
	t.Parallel()
	r := rand.New(rand.NewPCG(10, 8))
	for range 60 {
		m := freshMarsh(t)
		stock, birds, held := 0, 0, map[string]bool{}
		for range 120 {
			line := drawnLine(r)
			answer, e := m.Do(line)
			if e != api.OK {
				continue
			}
			n, _ := strconv.Atoi(answer)
			switch word := wordOf(line); word {
			case "bundles":
				stock += numbersOf(line)[0]
			case "roof":
				stock -= n
			case "see":
				if n < birds {
					t.Errorf("%q answers %d behind %d", line, n, birds)
				}
				birds = n
			case "holds":
				held[line] = answer == "yes"
			case "drop":
				clear(held)
			case "custom":
				for line, was := range held {
					answer, e := m.Do(line)
					if e != api.OK || was && answer != "yes" {
						t.Errorf("%q: %q, error %d", line, answer, e)
					}
					held[line] = answer == "yes"
				}
			}
			if m.Stock() != stock {
				t.Fatalf("behind %q the stock is %d, want %d", m.Lines(), m.Stock(), stock)
			}
		}
	}
}

// P10.4: what Do says while the board is down: the errors of a line come ahead of those
// of Put, and ErrDead ahead of all but ErrDown of no marsh.
func TestDoOrder(t *testing.T) {
	b := newBoard(t, 4)
	m := openMarsh(t, b)
	script(t, m, "map rr/rr", "1", "bundles 5", "5")
	b.Arm(1)
	b.Dry()
	script(t, m, "way 0 1", "1", "share", "-", "go", "!100", "mow ", "!100", "parcel a 0 0", "!10", "roof 40 24 3 4 5 1", "!5", "bundles 999999", "!4", "holds x", "!3", "custom x", "!3")
	script(t, m, "custom pppppppp(aaaaaaaa, aaaaaaaa) if pppppppp(aaaaaaaa, aaaaaaaa)", "!103")
	script(t, m, "spread", "!101", "way 0 1", "!102", "share", "!102", "go", "!102", "", "!102", "mow", "!102", "parcel a 0 0", "!102", strings.Repeat("x", 200), "!102", "spread\n", "!102")
	checkMarsh(t, m, ledger{"map rr/rr", "bundles 5"})
	b.Fire(nil)
	script(t, m, "way 0 1", "!102", "mow", "!102")
	m = openMarsh(t, b)
	script(t, m, "way 0 1", "1", "mow", "4", "spread", "4", "spread", "!103", "spread x", "!100", "drop 0", "!5", "bundles 0", "!103", "birds", "0 0")
	checkMarsh(t, m, ledger{"map rr/rr", "bundles 5", "mow", "spread"})
}

// P10.4: a deed whose line cannot be put has no effect, for each deed and each call of
// Put that fails.
func TestDoFails(t *testing.T) {
	first := ledger{"parcel a 0 0 4 0 4 3", "map rps/srp", "custom house(ann)", "custom right(X) if house(X)", "see 1 2 3", "strip 5 4 1", "bundles 2000"}
	b := newBoard(t, 60)
	m := openMarsh(t, b)
	for _, line := range first {
		script(t, m, line, answerOf(t, m, line))
	}
	for _, line := range []string{"parcel b -1000 -1000 1000 -1000 1000 1000 -1000 1000", "map r", "map " + strings.Repeat("r", 30), "spread", "mow", "custom house(bob)", "custom wrong(X, Y) if right(X) and right(Y)", "drop 0", "drop 1", "see 0 0 0", "strip 1 2 3", "bundles 1", "roof 40 24 3 4 5 1"} {
		parts := (len(line) + 29) / 30
		for n := 1; n <= parts+1; n++ {
			for _, all := range []bool{false, true} {
				c := b.Copy()
				m := openMarsh(t, c)
				c.Arm(n)
				script(t, m, line, "!101", "birds", "!102")
				checkMarsh(t, m, first)
				want := first
				if all && n == parts+1 {
					want = first.next(line) // it was under way as a whole
				}
				var keep []int
				for i := range 60 {
					if all {
						keep = append(keep, i)
					}
				}
				c.Fire(keep)
				checkMarsh(t, openMarsh(t, c), want)
			}
		}
		c := b.Copy()
		m := openMarsh(t, c)
		c.Arm(parts + 2)
		script(t, m, line, answerOf(t, m, line))
		checkMarsh(t, m, first.next(line))
		c.Fire(nil)
		checkMarsh(t, openMarsh(t, c), first.next(line))
	}
}

// P10.4: entries that are no deeds, or have errors, alone or among others.
func TestOpenErrors(t *testing.T) {
	for _, line := range []string{"area a", "inside a 0 0", "way 0 0", "holds p(a)", "steps p(a)", "share", "birds", "way 0 4", "area z", "steps q(a)", "x", " ", "\n", "bundles 1\n", "bundles 1 ", "bundles -1", "bundles 01", "\x00", "\xff\xff", strings.Repeat("x", 150), "drop 1", "parcel a 0 0 1 0 0 1", "parcel b 0 0", "map x", "custom p(a, b)", "custom p(X)", "see 0 0 10001", "strip 0 0 1001", "bundles 999999", "roof 40 24 3 4 6 1", "roof 40 24 3 4 5 1", "go"} {
		for i := range 8 {
			lines := []string{"parcel a 0 0 4 0 4 3", "map rrr/rwr/rrr", "custom p(a)", "bundles 5", "strip 0 0 0"}
			if i < 6 {
				lines = slices.Insert(lines, i, line)
			}
			if i == 6 {
				lines = []string{line, line}
			}
			b := newBoard(t, 60)
			k := openBook(t, b)
			for _, line := range lines {
				if e := k.Put([]byte(line)); e != api.OK {
					t.Fatalf("Put(%q): error %d", line, e)
				}
			}
			m, e := marsh.Open(b)
			if i == 7 {
				if e != api.OK || m == nil {
					t.Fatalf("Open: error %d", e)
				}
				checkMarsh(t, m, lines)
				continue
			}
			if (m != nil || e != api.ErrForm) && !deedAt(lines, line) {
				t.Errorf("Open of %q: error %d", lines, e)
			}
			if b.Down() || len(openBook(t, b).Entries()) != len(lines) {
				t.Errorf("Open of %q changes the book", lines)
			}
		}
	}
}

// deedAt reports whether all lines, also the one that is asked about, are deeds at
// their places: some are wrong only behind others.
func deedAt(lines []string, line string) bool {
	var l ledger
	for _, line := range lines {
		if _, e := l.answer(line); e != api.OK || slices.Contains(questions, wordOf(line)) {
			return false
		}
		l = l.next(line)
	}
	return true
}

// P10.4, P10.7, R7: nil marshes and zero values.
func TestNoMarsh(t *testing.T) {
	for _, m := range []*marsh.Marsh{nil, {}} {
		for _, line := range []string{"", "birds", "bundles 1", "map r", "x\n", strings.Repeat("x", 151), "parcel a 0 0 1 0 0 1"} {
			if answer, e := m.Do(line); answer != "" || e != api.ErrDown {
				t.Errorf("Do(%q): %q, error %d", line, answer, e)
			}
		}
		for _, name := range []string{"", "a", "A", "abcdefghi"} {
			if p, e := m.Parcel(name); p != nil || e != api.ErrArg {
				t.Errorf("Parcel(%q): %v, error %d", name, p, e)
			}
		}
		if n, is := m.Map(); is || n.W != 0 || n.H != 0 || n.Squares != nil {
			t.Errorf("Map: %v, %v", n, is)
		}
		if len(m.Lines()) != 0 || len(m.Customs()) != 0 || len(m.Seen()) != 0 || len(m.Strips()) != 0 || m.Stock() != 0 {
			t.Errorf("%q, %v, %v, %v, %d", m.Lines(), m.Customs(), m.Seen(), m.Strips(), m.Stock())
		}
	}
	checkMarsh(t, freshMarsh(t), nil)
}

// P10.7: names that are none, and names of no parcel.
func TestParcel(t *testing.T) {
	m := freshMarsh(t)
	script(t, m, "parcel a 0 0 4 0 4 3", "12", "parcel abcdefgh 0 0 1 0 0 1", "1", "parcel z 1 1 2 1 1 2", "1")
	for b := range 256 {
		c := string([]byte{byte(b)})
		for _, name := range []string{c, "a" + c, c + "a", "a" + c + "a"} {
			want := api.ErrArg
			if c >= "a" && c <= "z" {
				want = api.ErrNone
			}
			if name == "a" || name == "z" {
				want = api.OK
			}
			if p, e := m.Parcel(name); (p == nil) == (want == api.OK) || e != want {
				t.Errorf("Parcel(%q): %v, error %d", name, p, e)
			}
		}
	}
	for name, want := range map[string]api.Errno{"": api.ErrArg, "abcdefgh": api.OK, "abcdefg": api.ErrNone, "abcdefghi": api.ErrArg, "a ": api.ErrArg, "é": api.ErrArg, "ａ": api.ErrArg, strings.Repeat("a", 1<<20): api.ErrArg, "zzzzzzzz": api.ErrNone} {
		if p, e := m.Parcel(name); (p == nil) == (want == api.OK) || e != want {
			t.Errorf("Parcel(%.20q): %v, error %d", name, p, e)
		}
	}
}

// R4: what a marsh returns is new memory, none of it shared.
func TestMarshMemory(t *testing.T) {
	m := freshMarsh(t)
	script(t, m, "parcel a 0 0 4 0 4 3", "12", "map rrr/rwr/rrr", "1", "custom house(ann)", "1", "custom right(X, Y) if house(X) and house(Y)", "2", "see 1 2 3", "1", "strip 5 4 1", "0", "strip 7 8 9", "1", "bundles 7", "7")
	l := ledger(m.Lines())
	for range 3 {
		lines, seen, strips, customs := m.Lines(), m.Seen(), m.Strips(), m.Customs()
		p, _ := m.Parcel("a")
		land, _ := m.Map()
		clear(append(lines, "x")[:1])
		clear(append(seen, api.Sighting{}))
		clear(seen)
		clear(append(p, api.XY{}))
		clear(p)
		clear(append(land.Squares, 9))
		clear(land.Squares)
		for i, row := range strips {
			clear(append(row, 9, 9))
			if i < 2 && (len(strips[i+1]) != 2 || strips[i+1][0] == 0) {
				t.Errorf("rows share memory: %v", strips)
			}
			clear(row)
		}
		for _, c := range customs {
			for _, a := range append(c.Body, c.Head) {
				clear(append(a.Args, "x", "y"))
				clear(a.Args)
			}
			clear(append(c.Body, api.Atom{}))
			clear(c.Body)
		}
		clear(customs)
		checkMarsh(t, m, l)
		script(t, m, "holds right(ann, ann)", "yes", "area a", "6p", "way 0 8", "4", "birds", "1 1", "share", "1 0")
	}
}

// R4: the Args of customs that are returned share no memory.
func TestCustomsMemory(t *testing.T) {
	m := freshMarsh(t)
	script(t, m, "custom p(a, b)", "1", "custom p(X, Y) if p(Y, X) and p(X, Y)", "1", "custom p(c, d)", "2")
	customs := m.Customs()
	var args [][]string
	for _, c := range customs {
		args = append(args, c.Head.Args)
		for _, a := range c.Body {
			args = append(args, a.Args)
		}
	}
	for i, l := range args {
		copy(append(l, "", ""), []string{"", "", strconv.Itoa(i), "x"})
		copy(l, []string{strconv.Itoa(i), strconv.Itoa(i)})
	}
	for i, l := range args {
		if !slices.Equal(l, []string{strconv.Itoa(i), strconv.Itoa(i)}) {
			t.Errorf("Args %d: %q", i, l)
		}
	}
	checkMarsh(t, m, m.Lines())
}

// P10.7: Play, and its errors in their order.
func TestPlay(t *testing.T) {
	for _, n := range append([]int{0, 3, 301}, farNumbers...) {
		for _, lines := range [][]string{nil, {"birds"}, make([]string, 101)} {
			if l, e := marsh.Play(n, lines); l != nil || e != api.ErrArg {
				t.Errorf("Play on %d squares: %q, error %d", n, l, e)
			}
		}
	}
	for _, n := range []int{101, 102, 100000} {
		if l, e := marsh.Play(4, make([]string, n)); l != nil || e != api.ErrLimit {
			t.Errorf("Play of %d lines: %d, error %d", n, len(l), e)
		}
	}
	for n := range 101 {
		want := make([]string, n)
		lines := make([]string, n, n+5)
		for i := range n {
			want[i] = strconv.Itoa(i + 1)
			lines[i] = "bundles 1"
		}
		if l, e := marsh.Play(300, lines); !slices.Equal(l, want) || e != api.OK {
			t.Errorf("Play of %d lines: %q, error %d", n, l, e)
		}
	}
	for _, c := range []struct{ lines, want string }{
		{"parcel a 0 0 4 0 4 3|area a|inside a 2 1", "12|6p|1"},
		{"map rrr/rwr/rrr|way 0 8|mow", "1|4|8"},
		{"custom house(ann)|custom right(X) if house(X)|holds right(ann)", "1|2|yes"},
		{"bundles 1|area a|bundles 2|bundles 3|bundles 4|bundles 5|share", "1|error 5|3|6|10|error 103|-"},
		{"way 0 0|map rw|way 0 1|map x|parcel a 0 0|x||see 0 0 10001|strip 0 0 1001|roof 1 1 1 1 1 1|custom p(a)|custom p(a, b)|holds p(X)|bundles 999999|bundles 999999", "error 5|1|error 2|error 3|error 10|error 100|error 100|error 60|error 70|error 80|1|error 90|error 91|999999|error 4"},
		{"parcel a 0 0 1 0 0 1|parcel a 0 0 1 0 0 1|birds|see 0 0 0|birds", "1|error 6|0 0|1|1 1"},
	} {
		l, e := marsh.Play(4, strings.Split(c.lines, "|"))
		if got := strings.Join(l, "|"); got != c.want || e != api.OK {
			t.Errorf("Play of %s: %s, error %d", c.lines, got, e)
		}
	}
}

// P10.7: Play of drawn lines, on boards that fill.
func TestPlayDrawn(t *testing.T) {
	t.Parallel()
	r := rand.New(rand.NewPCG(10, 7))
	for range 60 {
		squares := 4 + r.IntN(60)
		var lines, want []string
		var l ledger
		for range r.IntN(101) {
			line := drawnLine(r)
			lines = append(lines, line)
			answer, e := l.answer(line)
			if e == api.OK && !slices.Contains(questions, wordOf(line)) {
				if l.next(line).squares() > squares {
					e = api.ErrFull
				} else {
					l = l.next(line)
				}
			}
			if e != api.OK {
				answer = "error " + strconv.Itoa(int(e))
			}
			want = append(want, answer)
		}
		kept := slices.Clone(lines)
		if got, e := marsh.Play(squares, lines); !slices.Equal(got, want) || e != api.OK {
			t.Errorf("Play of %q: %q, error %d; want %q", lines, got, e, want)
		}
		if !slices.Equal(kept, lines) {
			t.Error("Play changes its lines")
		}
	}
}

// P10.9, P10.4: two marshes on copies go their own ways, and equal lines have equal
// answers.
func TestCopiesApart(t *testing.T) {
	b := newBoard(t, 40)
	m := openMarsh(t, b)
	script(t, m, "bundles 5", "5", "custom p(a)", "1")
	c := b.Copy()
	n := openMarsh(t, c)
	script(t, m, "bundles 1", "6", "custom p(b)", "2")
	script(t, n, "bundles 2", "7", "drop 0", "0")
	checkMarsh(t, m, ledger{"bundles 5", "custom p(a)", "bundles 1", "custom p(b)"})
	checkMarsh(t, n, ledger{"bundles 5", "custom p(a)", "bundles 2", "drop 0"})
	c.Fire(nil)
	script(t, n, "birds", "!102")
	script(t, m, "birds", "0 0", "bundles 0", "6")
	checkMarsh(t, openMarsh(t, c), ledger{"bundles 5", "custom p(a)", "bundles 2", "drop 0"})
	checkMarsh(t, openMarsh(t, b), ledger{"bundles 5", "custom p(a)", "bundles 1", "custom p(b)", "bundles 0"})
}
