package marsh_test

import (
	"encoding/hex"
	"math"
	"math/rand/v2"
	"regexp"
	"slices"
	"strconv"
	"strings"
	"testing"

	"sedge/api"
	"sedge/marsh"
)

// farNumbers are no square, no number of squares, and no place in a list.
var farNumbers = []int{math.MinInt, math.MinInt + 1, -1 << 32, -1000, -2, -1, 301, 1 << 32, math.MaxInt - 1, math.MaxInt}

func newBoard(t *testing.T, squares int) *marsh.Board {
	t.Helper()
	b, e := marsh.NewBoard(squares)
	if e != api.OK || b == nil {
		t.Fatalf("NewBoard(%d): error %d", squares, e)
	}
	return b
}

func openBook(t *testing.T, b *marsh.Board) *marsh.Book {
	t.Helper()
	k, e := marsh.OpenBook(b)
	if e != api.OK || k == nil {
		t.Fatalf("OpenBook: error %d", e)
	}
	return k
}

func openMarsh(t *testing.T, b *marsh.Board) *marsh.Marsh {
	t.Helper()
	m, e := marsh.Open(b)
	if e != api.OK || m == nil {
		t.Fatalf("Open: error %d", e)
	}
	return m
}

// squaresOf are what all squares of a board have, as texts.
func squaresOf(t *testing.T, b *marsh.Board) []string {
	t.Helper()
	var out []string
	for i := range b.Squares() {
		l, e := b.Read(i)
		if e != api.OK {
			t.Fatalf("Read(%d): error %d", i, e)
		}
		out = append(out, string(l))
	}
	return out
}

func textsOf(l [][]byte) []string {
	var out []string
	for _, b := range l {
		out = append(out, string(b))
	}
	return out
}

// drawnBytes are so many bytes, any of them.
func drawnBytes(r *rand.Rand, count int) string {
	out := make([]byte, count)
	for i := range out {
		out[i] = byte(r.IntN(256))
	}
	return string(out)
}

// event is what was done to a board: a square was written, all were dried, or there was
// a fire.
type event struct {
	what   byte // w, d or f
	square int
	text   string
	keep   []int
}

// slate is a board that keeps all that was done to it, and looks for what a square has
// from the end.
type slate struct {
	count  int
	events []event
	down   bool
	calls  int // those that would have changed something since it was armed
	armed  int
}

func (s *slate) copy() *slate {
	out := *s
	out.events = slices.Clone(s.events)
	return &out
}

// has looks back for the last writing that was not lost: one is lost if a fire comes
// behind it, which does not keep it, and nothing was dried between.
func (s *slate) has(square int) string {
	for i := len(s.events) - 1; i >= 0; i-- {
		if s.events[i].what == 'w' && s.events[i].square == square && !s.lost(square, s.events[i+1:]) {
			return s.events[i].text
		}
	}
	return ""
}

func (s *slate) lost(square int, later []event) bool {
	for _, e := range later {
		switch {
		case e.what == 'd' || e.what == 'f' && slices.Contains(e.keep, square):
			return false
		case e.what == 'f':
			return true
		}
	}
	return false
}

// change is a call that would change something, and fails if its turn has come.
func (s *slate) change(e event) api.Errno {
	s.calls++
	if s.calls == s.armed {
		s.down, s.armed = true, 0
		return api.ErrDown
	}
	s.events = append(s.events, e)
	return api.OK
}

func (s *slate) write(square int, text string) api.Errno {
	switch {
	case s.down:
		return api.ErrDown
	case square < 0 || square >= s.count || len(text) > 36:
		return api.ErrArg
	}
	return s.change(event{what: 'w', square: square, text: text})
}

func (s *slate) dry() api.Errno {
	if s.down {
		return api.ErrDown
	}
	return s.change(event{what: 'd'})
}

func (s *slate) arm(n int) {
	s.calls, s.armed = 0, n
}

func (s *slate) fire(keep []int) {
	s.events = append(s.events, event{what: 'f', keep: keep})
	s.down, s.armed = false, 0
}

// checkBoard holds a board against a slate.
func checkBoard(t *testing.T, b *marsh.Board, s *slate, said string) {
	t.Helper()
	if b.Squares() != s.count || b.Down() != s.down {
		t.Fatalf("%s: %d squares, down %v; want %d, %v", said, b.Squares(), b.Down(), s.count, s.down)
	}
	for i := range s.count {
		text, want, wrong := s.has(i), api.OK, api.ErrArg
		if s.down {
			text, want, wrong = "", api.ErrDown, api.ErrDown
		}
		if l, e := b.Read(i); string(l) != text || e != want {
			t.Fatalf("%s: Read(%d): %q, error %d; want %q, error %d", said, i, l, e, text, want)
		}
		for _, n := range []int{-1 - i, s.count + i} {
			if l, e := b.Read(n); len(l) != 0 || e != wrong {
				t.Fatalf("%s: Read(%d): %q, error %d; want error %d", said, n, l, e, wrong)
			}
		}
	}
}

// hexadecimal is n in so many bytes.
func hexadecimal(n, count int) string {
	text := strconv.FormatInt(int64(n), 16)
	return strings.Repeat("0", 2*count-len(text)) + text
}

// spelled are the squares of an entry, by the words of the chapter.
func spelled(entry string, season, number int) []string {
	var parts []string
	for rest := entry; rest != ""; {
		n := min(len(rest), 30)
		parts = append(parts, rest[:n])
		rest = rest[n:]
	}
	for p, part := range parts {
		front, _ := hex.DecodeString(hexadecimal(season, 2) + hexadecimal(number, 2) + hexadecimal(p, 1) + hexadecimal(len(parts), 1))
		parts[p] = string(front) + part
	}
	return parts
}

// readBoard reads the entries and the season of a board off its squares in
// hexadecimal digits, by expressions.
func readBoard(squares []string) (entries []string, season int) {
	rest := ""
	for _, s := range squares {
		rest += hex.EncodeToString([]byte(s)) + "/"
		if len(s) > 5 {
			season = max(season, int(s[0])*256+int(s[1]))
		}
	}
	for number := 1; ; number++ {
		found := false
		for k := 1; k <= 5 && !found; k++ {
			entry, length := readEntry(rest, number, k)
			if length > 0 {
				found = true
				entries, rest = append(entries, entry), rest[length:]
			}
		}
		if !found {
			return entries, season + 1
		}
	}
}

// readEntry returns the entry of k parts in front of a text, and how much of the text
// it takes.
func readEntry(text string, number, k int) (string, int) {
	if len(text) < 12 || text[4:12] != hexadecimal(number, 2)+"00"+hexadecimal(k, 1) {
		return "", 0
	}
	form := "^"
	for p := range k {
		form += text[:4] + hexadecimal(number, 2) + hexadecimal(p, 1) + hexadecimal(k, 1)
		if p < k-1 {
			form += "([0-9a-f]{60})/"
		} else {
			form += "((?:[0-9a-f]{2}){1,30})/"
		}
	}
	found := regexp.MustCompile(form).FindStringSubmatch(text)
	if found == nil {
		return "", 0
	}
	entry, _ := hex.DecodeString(strings.Join(found[1:], ""))
	return string(entry), len(found[0])
}
