package marsh_test

import (
	"math/rand/v2"
	"slices"
	"strconv"
	"strings"
	"testing"

	"sedge/api"
	"sedge/marsh"
)

// filled is a board on which squares were written.
func filled(t *testing.T, size int, squares []string) *marsh.Board {
	t.Helper()
	b := newBoard(t, size)
	for i, text := range squares {
		if e := b.Write(i, []byte(text)); e != api.OK {
			t.Fatalf("Write(%d): error %d", i, e)
		}
	}
	return b
}

// checkOpened holds the book on a board against what is read off its squares.
func checkOpened(t *testing.T, b *marsh.Board) {
	t.Helper()
	squares := squaresOf(t, b)
	entries, season := readBoard(squares)
	k, e := marsh.OpenBook(b)
	if season > 65535 {
		if k != nil || e != api.ErrLimit {
			t.Errorf("OpenBook on %q: error %d", squares, e)
		}
		return
	}
	if e != api.OK || !slices.Equal(textsOf(k.Entries()), entries) || k.Season() != season || k.Dead() {
		t.Errorf("OpenBook on %q: %q, season %d, error %d; want %q, season %d", squares, k.Entries(), k.Season(), e, entries, season)
	}
	if !slices.Equal(squaresOf(t, b), squares) {
		t.Errorf("OpenBook writes on %q", squares)
	}
}

// someSquares are right and wrong squares of the first few entries.
func someSquares() []string {
	x30 := strings.Repeat("x", 30)
	return []string{
		"", "\x00\x09\x00\x01\x00", "\x00\x09\x00\x01\x00\x01",
		"\x00\x01\x00\x01\x00\x01a", "\x00\x02\x00\x02\x00\x01" + x30, "\x01\x00\x00\x03\x00\x01c", "\x00\x01\x01\x01\x00\x01a",
		"\x00\x01\x00\x01\x00\x02" + x30, "\x00\x01\x00\x01\x00\x02" + x30[1:], "\x00\x01\x00\x01\x01\x02b", "\x00\x01\x00\x01\x01\x02" + x30, "\x00\x01\x00\x01\x01\x02", "\x00\x02\x00\x01\x01\x02b", "\x00\x01\x00\x01\x01\x03b",
		"\x00\x01\x00\x02\x00\x02" + x30, "\x00\x01\x00\x02\x01\x02b", "\x00\x01\x00\x01\x00\x00a", "\x00\x01\x00\x01\x01\x01a",
	}
}

// P10.2: all boards of four squares with some of these.
func TestOpenBookSmall(t *testing.T) {
	t.Parallel()
	l := someSquares()
	for _, first := range l {
		for _, second := range l {
			for _, third := range l {
				if !strings.HasPrefix(first, "\x00\x01") && second != third {
					continue // nothing but the season is behind
				}
				for _, fourth := range []string{"", third, "\x00\x01\x00\x02\x01\x02b", "\x00\x01\x00\x03\x00\x01c", "\x00\x07\x00\x04\x00\x01d"} {
					checkOpened(t, filled(t, 4, []string{first, second, third, fourth}))
				}
			}
		}
	}
}

// changedSquares are squares with a change or two.
func changedSquares(r *rand.Rand, squares []string) []string {
	out := slices.Clone(squares)
	for range r.IntN(3) {
		i, k := r.IntN(len(out)), r.IntN(len(out))
		text := []byte(out[i])
		switch r.IntN(6) {
		case 0:
			out[i], out[k] = out[k], out[i]
		case 1:
			out[i] = out[k]
		case 2:
			text = text[:len(text)-min(len(text), 1+r.IntN(3))]
			out[i] = string(text)
		case 3:
			out[i] = out[i][:min(len(out[i]), 35)] + "x"
		default:
			if len(text) > 0 {
				text[r.IntN(min(len(text), 6))] += byte(1 - 2*r.IntN(2))
				out[i] = string(text)
			}
		}
	}
	return out
}

// P10.2: drawn boards with entries of all lengths, also of too many parts, of which some
// squares are changed, or the last ones are not there.
func TestOpenBookDrawn(t *testing.T) {
	t.Parallel()
	r := rand.New(rand.NewPCG(10, 2))
	most := 0
	for range 6000 {
		var squares []string
		season := []int{0, 1, 2, 255, 256, 4000, 65000, 65534, 65535}[r.IntN(9)]
		for number := 1; len(squares) < 12; number++ {
			season = min(season+r.IntN(3)/2, 65535)
			length := 1 + r.IntN(150)
			if r.IntN(20) == 0 {
				length += r.IntN(100)
			}
			squares = append(squares, spelled(drawnBytes(r, length), season, number)...)
		}
		if r.IntN(3) == 0 {
			squares = squares[:12]
		}
		if r.IntN(4) == 0 {
			squares[r.IntN(len(squares))] = drawnBytes(r, r.IntN(37))
		}
		b := filled(t, len(squares)+r.IntN(3), changedSquares(r, squares))
		checkOpened(t, b)
		if k, e := marsh.OpenBook(b); e == api.OK {
			most = max(most, len(k.Entries()))
		}
	}
	if most < 5 {
		t.Errorf("at most %d entries", most)
	}
}

// P10.2: entries of all lengths, and longer ones that are none, on boards that end with
// them or one square ahead.
func TestOpenBookEnds(t *testing.T) {
	for length := 1; length <= 330; length++ {
		parts := spelled(someBytes(length, 1), 3, 1)
		for size := len(parts) - 1; size <= len(parts)+1; size++ {
			if size < 4 {
				continue
			}
			b := filled(t, size, parts[:min(size, len(parts))])
			checkOpened(t, b)
			want := 0
			if size >= len(parts) && length <= 150 {
				want = 1
			}
			if l := openBook(t, b).Entries(); len(l) != want {
				t.Errorf("an entry of %d bytes on %d squares: %q", length, size, l)
			}
		}
	}
	for parts := 1; parts <= 5; parts++ {
		squares := slices.Concat(spelled("a", 3, 1), spelled("b", 3, 2), spelled("c", 3, 3), spelled(someBytes(30*parts, 1), 3, 4))
		for left := 1; left <= parts; left++ {
			l := openBook(t, filled(t, 3+left, squares[:3+left])).Entries()
			if want := 3 + left/parts; len(l) != want {
				t.Errorf("%d of %d parts at the end of a board: %q", left, parts, l)
			}
		}
	}
}

// P10.2: a full board of entries of one part, and one of entries of five.
func TestOpenBookFull(t *testing.T) {
	for _, length := range []int{1, 30, 31, 60, 61, 120, 121, 149, 150} {
		var squares, entries []string
		for number := 1; ; number++ {
			entry := strings.Repeat(string(rune('a'+number%26)), length)
			parts := spelled(entry, 7, number)
			if len(squares)+len(parts) > 300 {
				break
			}
			squares, entries = append(squares, parts...), append(entries, entry)
		}
		b := filled(t, 300, squares)
		k := openBook(t, b)
		if !slices.Equal(textsOf(k.Entries()), entries) || k.Season() != 8 {
			t.Errorf("%d entries of %d bytes: %d, season %d", len(entries), length, len(k.Entries()), k.Season())
		}
		checkOpened(t, b)
	}
}

// P10.2: the season is that of any square with 6 bytes, also behind the entries.
func TestSeason(t *testing.T) {
	for _, c := range []struct {
		square string
		want   int
	}{
		{"", 1}, {"\xff\xff\x00\x01\x00", 1}, {"\x00\x00\x00\x00\x00\x00", 1}, {"\x00\x01\x00\x00\x00\x00", 2}, {"\x01\x00\x00\x00\x00\x00\x00", 257}, {"\x01\xff\xff\xff\xff\xff" + strings.Repeat("\xff", 30), 512}, {"\xff\xfe......", 65535},
	} {
		for i := range 4 {
			squares := make([]string, 4)
			squares[i] = c.square
			squares[(i+1)%4] = []string{"", "\x00\x00......"}[i%2]
			if k := openBook(t, filled(t, 4, squares)); k.Season() != c.want || len(k.Entries()) != 0 {
				t.Errorf("%q: season %d, %q", squares, k.Season(), k.Entries())
			}
		}
	}
	for i := range 4 {
		squares := slices.Repeat([]string{"\x00\x05......"}, 4)
		squares[i] = "\xff\xff......"
		b := filled(t, 4, squares)
		if k, e := marsh.OpenBook(b); k != nil || e != api.ErrLimit {
			t.Errorf("OpenBook: season %d, error %d", k.Season(), e)
		}
		if m, e := marsh.Open(b); m != nil || e != api.ErrLimit {
			t.Errorf("Open: error %d", e)
		}
		b.Arm(1)
		b.Dry()
		if k, e := marsh.OpenBook(b); k != nil || e != api.ErrDown {
			t.Errorf("OpenBook on a board that is down: error %d", e)
		}
	}
}

// someBytes is an entry of so many bytes.
func someBytes(count, first int) string {
	out := make([]byte, count)
	for i := range out {
		out[i] = byte(first + i*7)
	}
	return string(out)
}

// P10.3: what Put writes, for entries of all lengths.
func TestPut(t *testing.T) {
	for length := 1; length <= 150; length++ {
		for _, season := range []int{0, 255, 600, 65534} {
			first := spelled(strings.Repeat("f", 32), season, 1)
			b := filled(t, 14, append(slices.Clone(first), "stale", "stale"))
			k := openBook(t, b)
			want := first
			entries := []string{strings.Repeat("f", 32)}
			for number := 2; number <= 3; number++ {
				entry := someBytes(length, number)
				if e := k.Put([]byte(entry)); e != api.OK {
					t.Fatalf("Put of %d bytes: error %d", length, e)
				}
				want = append(want, spelled(entry, season+1, number)...)
				entries = append(entries, entry)
			}
			if len(want) < 4 {
				want = append(want, slices.Repeat([]string{"stale"}, 4-len(want))...)
			}
			want = append(want, make([]string, 14-len(want))...)
			for range 2 {
				if l := squaresOf(t, b); !slices.Equal(l, want) {
					t.Fatalf("behind Put of %d bytes: %q, want %q", length, l, want)
				}
				if l := textsOf(k.Entries()); !slices.Equal(l, entries) || k.Season() != season+1 {
					t.Fatalf("behind Put of %d bytes: %q, season %d", length, l, k.Season())
				}
				b.Fire(nil) // all is dry
			}
			checkOpenedIfSeason(t, b, season+1)
		}
	}
}

// checkOpenedIfSeason looks at a board on which a book can be opened, and at one in the
// last season.
func checkOpenedIfSeason(t *testing.T, b *marsh.Board, last int) {
	t.Helper()
	checkOpened(t, b)
	if k, e := marsh.OpenBook(b); (k == nil) != (last == 65535) || (e == api.ErrLimit) != (last == 65535) {
		t.Errorf("OpenBook behind the season %d: error %d", last, e)
	}
}

// P10.3: one Write for each part in order, then one Dry, and no other call that
// changes the board.
func TestPutCalls(t *testing.T) {
	for _, length := range []int{1, 30, 31, 60, 75, 90, 91, 120, 121, 150} {
		entry := someBytes(length, 1)
		parts := spelled(entry, 2, 2)
		for n := 0; n <= len(parts)+3; n++ {
			b := filled(t, 9, []string{"\x00\x01\x00\x01\x00\x01a", "1", "2", "3", "4", "5", "6", "7", "8"})
			b.Dry()
			before := squaresOf(t, b)
			k := openBook(t, b)
			b.Arm(n)
			e := k.Put([]byte(entry))
			fails := 0 < n && n <= len(parts)+1
			want, wrote := slices.Clone(before), len(parts)
			if fails {
				wrote = n - 1
			}
			copy(want[1:], parts[:wrote])
			if (e == api.ErrDown) != fails || !fails && e != api.OK || k.Dead() != fails || b.Down() != fails {
				t.Fatalf("Put of %d parts with the call %d failing: error %d, dead %v", len(parts), n, e, k.Dead())
			}
			if l := k.Entries(); fails && (len(l) != 1 || string(l[0]) != "a") {
				t.Errorf("Entries behind a Put that fails: %q", l)
			}
			if n == len(parts)+2 {
				if e := b.Dry(); e != api.ErrDown {
					t.Errorf("Put of %d parts has one call too many", len(parts))
				}
			}
			if n == len(parts)+3 {
				b.Dry()
				if e := b.Dry(); e != api.ErrDown {
					t.Errorf("Put of %d parts has more calls", len(parts))
				}
			}
			c := b.Copy()
			b.Fire([]int{0, 1, 2, 3, 4, 5, 6, 7, 8})
			if l := squaresOf(t, b); !slices.Equal(l, want) {
				t.Errorf("with the call %d failing: %q, want %q", n, l, want)
			}
			if fails {
				want = before
			}
			c.Fire(nil)
			if l := squaresOf(t, c); !slices.Equal(l, want) {
				t.Errorf("with the call %d failing, and all lost: %q, want %q", n, l, want)
			}
		}
	}
}

// P10.3: the errors of Put, each ahead of those behind it; they put nothing.
func TestPutErrors(t *testing.T) {
	for _, length := range []int{0, 1, 30, 31, 60, 61, 90, 91, 120, 121, 150, 151, 152, 300, 1 << 20} {
		for used := range 6 {
			for state := range 4 {
				b := newBoard(t, 5)
				k := openBook(t, b)
				for i := range used {
					k.Put([]byte{byte('a' + i)})
				}
				want := api.OK
				if (length+29)/30 > 5-used {
					want = api.ErrFull
				}
				if length < 1 || length > 150 {
					want = api.ErrArg
				}
				switch state {
				case 1: // the board is down, and the book does not know
					b.Arm(1)
					b.Dry()
					if want == api.OK {
						want = api.ErrDown
					}
				case 2:
					b.Fire(nil)
					want = api.ErrDead
				case 3:
					b.Arm(1)
					if k.Put([]byte("x")) != api.ErrDown {
						b.Fire(nil) // it was full
					}
					want = api.ErrDead
				}
				if dead := k.Dead(); dead != (state > 1) {
					t.Errorf("Dead in the state %d: %v", state, dead)
				}
				if e := k.Put(make([]byte, length)); e != want {
					t.Errorf("Put of %d bytes behind %d in the state %d: error %d, want %d", length, used, state, e, want)
				}
				count := used
				if want == api.OK {
					count++
				}
				if dead := k.Dead(); dead != (state > 1 || want == api.ErrDown) || len(k.Entries()) != count || k.Season() != 1 {
					t.Errorf("behind Put of %d bytes in the state %d: dead %v, %d entries", length, state, dead, len(k.Entries()))
				}
			}
		}
	}
}

// P10.3: a Put that returned an error but ErrDown lets the next one be.
func TestPutGoesOn(t *testing.T) {
	b := newBoard(t, 4)
	k := openBook(t, b)
	var entries []string
	for i, c := range []struct {
		length int
		want   api.Errno
	}{{0, api.ErrArg}, {121, api.ErrFull}, {31, api.OK}, {151, api.ErrArg}, {61, api.ErrFull}, {30, api.OK}, {31, api.ErrFull}, {0, api.ErrArg}, {1, api.OK}, {1, api.ErrFull}, {151, api.ErrArg}} {
		entry := someBytes(c.length, i)
		if e := k.Put([]byte(entry)); e != c.want || k.Dead() {
			t.Errorf("Put %d: error %d", i, e)
		}
		if c.want == api.OK {
			entries = append(entries, entry)
		}
		if l := textsOf(k.Entries()); !slices.Equal(l, entries) {
			t.Errorf("Entries behind Put %d: %q", i, l)
		}
	}
	for range 2 {
		if l := textsOf(openBook(t, b).Entries()); !slices.Equal(l, entries) {
			t.Errorf("Entries of another book: %q", l)
		}
		b.Fire(nil)
	}
}

// P10.3: as many entries as there are squares.
func TestPutMany(t *testing.T) {
	b := newBoard(t, 300)
	k := openBook(t, b)
	for i := range 300 {
		if e := k.Put([]byte(strconv.Itoa(i))); e != api.OK {
			t.Fatalf("Put %d: error %d", i, e)
		}
	}
	if e := k.Put([]byte("x")); e != api.ErrFull {
		t.Errorf("Put on a full board: error %d", e)
	}
	if l, _ := b.Read(299); string(l) != "\x00\x01\x01\x2c\x00\x01299" {
		t.Errorf("the last square: %q", l)
	}
	b.Fire(nil)
	checkOpened(t, b)
	if l := openBook(t, b).Entries(); len(l) != 300 || string(l[256]) != "256" {
		t.Errorf("%d entries", len(l))
	}
}

// P10.1, P10.2: a fire ends the books of its board, and no others.
func TestDead(t *testing.T) {
	b := newBoard(t, 8)
	k := openBook(t, b)
	k.Put([]byte("a"))
	c := b.Copy()
	other := openBook(t, c)
	b.Fire(nil)
	if !k.Dead() || other.Dead() {
		t.Errorf("behind a fire: %v, on a copy %v", k.Dead(), other.Dead())
	}
	if e := k.Put([]byte("b")); e != api.ErrDead {
		t.Errorf("Put: error %d", e)
	}
	again := openBook(t, b)
	if e := again.Put([]byte("c")); e != api.OK || again.Dead() {
		t.Errorf("Put: error %d", e)
	}
	c.Fire(nil)
	if !other.Dead() || again.Dead() {
		t.Errorf("behind a fire on a copy: %v, on the board %v", other.Dead(), again.Dead())
	}
	c.Fire(nil)
	b.Arm(1)
	b.Dry()
	if again.Dead() {
		t.Error("a board that is down ends a book ahead of a call of it")
	}
	if e := again.Put([]byte("d")); e != api.ErrDown || !again.Dead() {
		t.Errorf("Put: error %d, dead %v", e, again.Dead())
	}
	b.Fire(nil)
	for i, k := range []*marsh.Book{k, other, again} {
		if !k.Dead() || k.Put([]byte("e")) != api.ErrDead || k.Season() != []int{1, 2, 2}[i] {
			t.Errorf("the book %d: dead %v, season %d", i, k.Dead(), k.Season())
		}
	}
	if l := textsOf(again.Entries()); !slices.Equal(l, []string{"a", "c"}) {
		t.Errorf("Entries of a dead book: %q", l)
	}
}

// P10.2, P10.3, R7: nil books and zero values.
func TestNoBook(t *testing.T) {
	for _, k := range []*marsh.Book{nil, {}} {
		for range 2 {
			if l := k.Entries(); len(l) != 0 {
				t.Errorf("Entries: %q", l)
			}
			if n := k.Season(); n != 0 || !k.Dead() {
				t.Errorf("Season: %d, Dead: %v", n, k.Dead())
			}
			for _, n := range []int{0, 1, 150, 151} {
				if e := k.Put(make([]byte, n)); e != api.ErrDown {
					t.Errorf("Put: error %d", e)
				}
			}
		}
	}
}

// R4: entries are copied.
func TestBookMemory(t *testing.T) {
	b := newBoard(t, 8)
	k := openBook(t, b)
	mine := []byte(someBytes(80, 1))
	k.Put(mine[:40])
	clear(mine)
	k.Put([]byte("two"))
	want := []string{someBytes(40, 1), "two"}
	for _, k := range []*marsh.Book{k, openBook(t, b)} {
		for range 2 {
			l := k.Entries()
			if !slices.Equal(textsOf(l), want) {
				t.Fatalf("Entries: %q", l)
			}
			for i := range l {
				clear(append(l[i], "more"...))
				clear(l[i])
			}
			l[0] = nil
		}
	}
	if l := textsOf(openBook(t, b).Entries()); !slices.Equal(l, want) {
		t.Errorf("Entries: %q", l)
	}
}

// burning goes through fires: on each board a book is opened, and on copies of it
// entries are put with each of their calls failing, or none, each behind it with a fire
// that keeps some squares; then it goes on.
type burning struct {
	t       *testing.T
	lengths []int
	kept    int // how many times an entry under way was kept
}

// from goes on from a board with these entries.
func (f *burning) from(b *marsh.Board, entries []string, left int) {
	k := openBook(f.t, b)
	if l := textsOf(k.Entries()); !slices.Equal(l, entries) {
		f.t.Fatalf("%d fires ahead: %q, want %q", left, l, entries)
	}
	if left == 0 {
		return
	}
	for i, length := range f.lengths {
		entry := strings.Repeat(string(rune('a'+left*len(f.lengths)+i)), length)
		parts := (length + 29) / 30
		first := 0
		for _, e := range entries {
			first += (len(e) + 29) / 30
		}
		if first+parts > b.Squares() {
			continue
		}
		for n := 0; n <= parts+1; n++ {
			wet := n - 1
			if n == 0 {
				wet = 0
			}
			for set := range 1 << wet {
				f.burn(b, entries, entry, n, first, set, left)
			}
		}
	}
}

// burn puts one entry with the call n failing, and keeps a set of its squares.
func (f *burning) burn(b *marsh.Board, entries []string, entry string, n, first, set, left int) {
	c := b.Copy()
	k := openBook(f.t, c)
	c.Arm(n)
	e := k.Put([]byte(entry))
	var keep []int
	for i := range 5 {
		if set>>i&1 == 1 {
			keep = append(keep, first+i)
		}
	}
	if n == 0 {
		if e != api.OK {
			f.t.Fatalf("Put: error %d", e)
		}
		entries = append(slices.Clone(entries), entry)
		f.from(c.Copy(), entries, left-1) // without a fire
	}
	c.Fire(keep)
	if n > 0 && len(keep) == (len(entry)+29)/30 { // all of its parts are there
		f.kept++
		entries = append(slices.Clone(entries), entry)
	}
	f.from(c, entries, left-1)
}

// P10.10: through all fires of few calls, one behind the other, nothing that was
// acknowledged is lost, and nothing else is found but what was under way as a whole.
func TestSafety(t *testing.T) {
	t.Parallel()
	f := &burning{t: t, lengths: []int{1, 31, 61}}
	f.from(newBoard(t, 4), nil, 4)
	f.lengths = []int{30, 60}
	f.from(newBoard(t, 6), nil, 5)
	f.lengths = []int{1, 150}
	f.from(newBoard(t, 7), nil, 2)
	if f.kept == 0 {
		t.Error("no entry under way was kept")
	}
}

// P10.10: long drawn runs, with fires at any time.
func TestSafetyDrawn(t *testing.T) {
	t.Parallel()
	r := rand.New(rand.NewPCG(10, 10))
	found, fires := 0, 0
	for range 300 {
		b := newBoard(t, 4+r.IntN(60))
		var entries []string
		for range 40 {
			k := openBook(t, b)
			if l := textsOf(k.Entries()); !slices.Equal(l, entries) {
				t.Fatalf("%q, want %q", l, entries)
			}
			var way string
			if r.IntN(4) > 0 {
				b.Arm(1 + r.IntN(9))
			}
			for range r.IntN(4) {
				entry := drawnBytes(r, 1+r.IntN(150))
				e := k.Put([]byte(entry))
				if e == api.OK {
					entries = append(entries, entry)
				}
				if e == api.ErrDown {
					way = entry
				}
			}
			if !b.Down() && r.IntN(3) == 0 {
				continue
			}
			var keep []int
			for i := range b.Squares() {
				if r.IntN(3) > 0 {
					keep = append(keep, i)
				}
			}
			b.Fire(keep)
			fires++
			if l := textsOf(openBook(t, b).Entries()); way != "" && len(l) == len(entries)+1 {
				entries = append(entries, way)
				found++
			}
		}
	}
	if found < 50 || fires < 5000 {
		t.Errorf("%d fires, with %d entries that were under way", fires, found)
	}
}
