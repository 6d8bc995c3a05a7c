package marsh_test

import (
	"math/rand/v2"
	"slices"
	"strconv"
	"strings"
	"testing"

	"sedge/api"
	"sedge/marsh"
)

// P10.1: boards of all sizes, and of those that there are not.
func TestNewBoard(t *testing.T) {
	for n := -10; n <= 320; n++ {
		b, e := marsh.NewBoard(n)
		if n < 4 || n > 300 {
			if b != nil || e != api.ErrArg {
				t.Errorf("NewBoard(%d): %v, error %d", n, b, e)
			}
			continue
		}
		if e != api.OK || b.Squares() != n || b.Down() {
			t.Fatalf("NewBoard(%d): error %d", n, e)
		}
		checkBoard(t, b, &slate{count: n}, "a new board")
		if e := b.Write(n-1, []byte("x")); e != api.OK {
			t.Errorf("Write on the last of %d squares: error %d", n, e)
		}
		if e := b.Write(n, []byte("x")); e != api.ErrArg {
			t.Errorf("Write behind %d squares: error %d", n, e)
		}
	}
	for _, n := range farNumbers {
		if b, e := marsh.NewBoard(n); b != nil || e != api.ErrArg {
			t.Errorf("NewBoard(%d): %v, error %d", n, b, e)
		}
	}
}

// doing is a call of a board and of a slate.
type doing struct {
	said string
	do   func(b *marsh.Board, s *slate) (got, want api.Errno)
}

func writes(square int, text string) doing {
	return doing{"Write(" + strconv.Itoa(square) + ", " + text[:min(len(text), 3)] + ") ", func(b *marsh.Board, s *slate) (got, want api.Errno) {
		return b.Write(square, []byte(text)), s.write(square, text)
	}}
}

func dries() doing {
	return doing{"Dry ", func(b *marsh.Board, s *slate) (got, want api.Errno) {
		return b.Dry(), s.dry()
	}}
}

func arms(n int) doing {
	return doing{"Arm(" + strconv.Itoa(n) + ") ", func(b *marsh.Board, s *slate) (got, want api.Errno) {
		b.Arm(n)
		s.arm(n)
		return api.OK, api.OK
	}}
}

func fires(keep ...int) doing {
	said := "Fire("
	for _, i := range keep {
		said += strconv.Itoa(i) + " "
	}
	return doing{said + ") ", func(b *marsh.Board, s *slate) (got, want api.Errno) {
		b.Fire(keep)
		s.fire(slices.Clone(keep))
		return api.OK, api.OK
	}}
}

// P10.1: all lists of few calls, each of them on a copy of what was there before.
func TestBoardSmall(t *testing.T) {
	t.Parallel()
	calls := []doing{writes(0, "a"), writes(0, ""), writes(3, "b"), writes(4, "c"), dries(), fires(), fires(0), fires(3, 1, 3), arms(0), arms(1), arms(2)}
	var try func(b *marsh.Board, s *slate, said string, left int)
	try = func(b *marsh.Board, s *slate, said string, left int) {
		checkBoard(t, b, s, said)
		if left == 0 {
			return
		}
		for _, call := range calls {
			b2, s2 := b.Copy(), s.copy()
			if got, want := call.do(b2, s2); got != want {
				t.Fatalf("%s%s: error %d, want %d", said, call.said, got, want)
			}
			try(b2, s2, said+call.said, left-1)
		}
		checkBoard(t, b, s, said+"and calls of copies")
	}
	try(newBoard(t, 4), &slate{count: 4}, "", 5)
}

// drawnCall is any call.
func drawnCall(r *rand.Rand, squares int) doing {
	switch n := r.IntN(20); {
	case n < 10:
		square, length := r.IntN(squares), r.IntN(37)
		if r.IntN(10) == 0 {
			square = []int{-1, squares, farNumbers[r.IntN(len(farNumbers))]}[r.IntN(3)]
		}
		if r.IntN(10) == 0 {
			length = 37 + r.IntN(100)
		}
		return writes(square, drawnBytes(r, length))
	case n < 14:
		return dries()
	case n < 16:
		return arms(r.IntN(12) - 2)
	}
	var keep []int
	for range r.IntN(2 * squares) {
		keep = append(keep, r.IntN(squares+4)-2)
	}
	if r.IntN(5) == 0 {
		keep = append(keep, farNumbers...)
	}
	return fires(keep...)
}

// P10.1: long drawn lists of calls, with copies that go on of their own.
func TestBoardDrawn(t *testing.T) {
	r := rand.New(rand.NewPCG(10, 1))
	for range 60 {
		squares := 4 + r.IntN(10)
		b, s := newBoard(t, squares), &slate{count: squares}
		for range 200 {
			if s.down && r.IntN(3) == 0 {
				b.Fire(nil)
				s.fire(nil)
			}
			call := drawnCall(r, squares)
			if got, want := call.do(b, s); got != want {
				t.Fatalf("%s: error %d, want %d", call.said, got, want)
			}
			checkBoard(t, b, s, call.said)
			if r.IntN(20) == 0 {
				b2, s2 := b.Copy(), s.copy()
				for range 5 {
					call := drawnCall(r, squares)
					if got, want := call.do(b2, s2); got != want {
						t.Fatalf("%s on a copy: error %d, want %d", call.said, got, want)
					}
				}
				checkBoard(t, b2, s2, "a copy")
				checkBoard(t, b, s, "what was copied")
			}
		}
	}
}

// P10.1: which call fails, that one with an error does not count, nor one that reads.
func TestArm(t *testing.T) {
	for n := 1; n <= 40; n++ {
		for _, last := range []func(b *marsh.Board) api.Errno{(*marsh.Board).Dry, func(b *marsh.Board) api.Errno { return b.Write(0, []byte("x")) }} {
			b := newBoard(t, 4)
			b.Write(0, []byte("dry"))
			b.Dry()
			b.Arm(n)
			for i := 1; i < n; i++ {
				for _, e := range []api.Errno{b.Write(4, nil), b.Write(-1, nil), b.Write(0, make([]byte, 37))} {
					if e != api.ErrArg {
						t.Fatalf("Write with an error: %d", e)
					}
				}
				b.Read(0)
				b.Copy().Dry()
				call := func() api.Errno { return b.Write(1, []byte("y")) }
				if i%3 == 0 {
					call = b.Dry
				}
				if e := call(); e != api.OK {
					t.Fatalf("the call %d of %d: error %d", i, n, e)
				}
			}
			checkFails(t, b, last)
		}
	}
}

// checkFails looks at the call that fails, and at what is behind a fire.
func checkFails(t *testing.T, b *marsh.Board, last func(b *marsh.Board) api.Errno) {
	t.Helper()
	if b.Down() {
		t.Fatal("a board is down ahead of the call that fails")
	}
	if e := last(b); e != api.ErrDown || !b.Down() {
		t.Fatalf("the call that fails: error %d", e)
	}
	b.Fire([]int{0})
	if l, e := b.Read(0); string(l) != "dry" || e != api.OK {
		t.Errorf("the call that failed was carried out: %q, error %d", l, e)
	}
	for range 100 {
		if b.Write(1, nil) != api.OK || b.Dry() != api.OK {
			t.Fatal("a call fails behind a fire")
		}
	}
}

// P10.1: with a number below 1, nothing is armed.
func TestDisarm(t *testing.T) {
	for _, n := range append([]int{0}, farNumbers...) {
		b := newBoard(t, 4)
		b.Arm(1)
		b.Arm(n)
		for i := 1; i <= 300; i++ {
			if e := b.Dry(); e != api.OK {
				t.Fatalf("Arm(%d): error %d of call %d", n, e, i)
			}
		}
		if e := b.Write(0, nil); (e == api.ErrDown) != (n == 301) {
			t.Errorf("Arm(%d): error %d", n, e)
		}
	}
}

// P10.1: a copy has what is wet, what is armed, and whether it is down.
func TestCopy(t *testing.T) {
	b := newBoard(t, 5)
	b.Write(0, []byte("dry"))
	b.Dry()
	b.Write(0, []byte("wet"))
	b.Arm(2)
	c := b.Copy()
	if e := c.Write(1, []byte("1")); e != api.OK {
		t.Errorf("the first call of a copy: error %d", e)
	}
	if e := c.Write(2, []byte("2")); e != api.ErrDown {
		t.Errorf("the armed call of a copy: error %d", e)
	}
	d := c.Copy()
	if !d.Down() || b.Down() {
		t.Errorf("down: %v, and what was copied %v", d.Down(), b.Down())
	}
	d.Fire([]int{1})
	if l := squaresOf(t, d); !slices.Equal(l, []string{"dry", "1", "", "", ""}) {
		t.Errorf("a copy behind a fire: %q", l)
	}
	if l := squaresOf(t, b); !slices.Equal(l, []string{"wet", "", "", "", ""}) {
		t.Errorf("what was copied: %q", l)
	}
	if !c.Down() {
		t.Error("a fire on a copy ends what was copied")
	}
	b.Fire([]int{0})
	if l := squaresOf(t, b); !slices.Equal(l, []string{"wet", "", "", "", ""}) {
		t.Errorf("what was copied behind a fire: %q", l)
	}
}

// P10.1, R7: nil boards and zero values.
func TestNoBoard(t *testing.T) {
	for _, b := range []*marsh.Board{nil, {}} {
		for range 2 {
			if n := b.Squares(); n != 0 {
				t.Errorf("Squares: %d", n)
			}
			for _, i := range append([]int{0, 1}, farNumbers...) {
				if e := b.Write(i, make([]byte, 40)); e != api.ErrDown {
					t.Errorf("Write: error %d", e)
				}
				if l, e := b.Read(i); l != nil || e != api.ErrDown {
					t.Errorf("Read: %q, error %d", l, e)
				}
			}
			if e := b.Dry(); e != api.ErrDown {
				t.Errorf("Dry: error %d", e)
			}
			if !b.Down() || b.Copy() != nil {
				t.Errorf("Down: %v, Copy: %v", b.Down(), b.Copy())
			}
			if k, e := marsh.OpenBook(b); k != nil || e != api.ErrDown {
				t.Errorf("OpenBook: %v, error %d", k, e)
			}
			if m, e := marsh.Open(b); m != nil || e != api.ErrDown {
				t.Errorf("Open: %v, error %d", m, e)
			}
			b.Arm(1)
			b.Fire([]int{0, 1, -1})
			b.Fire(nil)
		}
	}
}

// P10.1: while a board is down, ErrDown comes ahead of ErrArg.
func TestDown(t *testing.T) {
	b := newBoard(t, 4)
	b.Arm(1)
	b.Dry()
	for _, i := range append([]int{0, 3, 4}, farNumbers...) {
		for _, n := range []int{0, 36, 37} {
			if e := b.Write(i, make([]byte, n)); e != api.ErrDown {
				t.Errorf("Write(%d) of %d bytes: error %d", i, n, e)
			}
		}
		if l, e := b.Read(i); l != nil || e != api.ErrDown {
			t.Errorf("Read(%d): %q, error %d", i, l, e)
		}
	}
	if e := b.Dry(); e != api.ErrDown || !b.Down() || b.Squares() != 4 {
		t.Errorf("Dry: error %d", e)
	}
	b.Arm(1)
	b.Fire(nil)
	if e := b.Dry(); e != api.OK {
		t.Errorf("what was armed while it was down lasts behind a fire: error %d", e)
	}
}

// R4: what is written and read is copied, and a list is read up to its length.
func TestBoardMemory(t *testing.T) {
	b := newBoard(t, 4)
	mine := []byte("abcdef")
	b.Write(0, mine[:3])
	copy(mine, "xyzxyz")
	keep := []int{3, 0, 1}
	c := b.Copy()
	for _, b := range []*marsh.Board{b, c} {
		l, _ := b.Read(0)
		if string(l) != "abc" {
			t.Errorf("Read: %q", l)
		}
		copy(append(l, "more"...), "1234567")
		b.Fire(keep[:2])
		for range 2 {
			l, _ = b.Read(0)
			if string(l) != "abc" {
				t.Errorf("Read behind a fire: %q", l)
			}
			copy(append(l, "more"...), "1234567")
		}
		b.Write(1, []byte("lost"))
		b.Fire(keep[:2])
		if l, _ := b.Read(1); len(l) != 0 {
			t.Errorf("a list is read beyond its length: %q", l)
		}
	}
	if !slices.Equal(keep, []int{3, 0, 1}) || string(mine) != "xyzxyz" {
		t.Errorf("arguments are changed: %v, %q", keep, mine)
	}
	big := []byte(strings.Repeat("x", 1<<20))
	if e := b.Write(0, big); e != api.ErrArg {
		t.Errorf("Write of many bytes: error %d", e)
	}
	if e := b.Write(0, big[:36]); e != api.OK {
		t.Errorf("Write of 36 bytes: error %d", e)
	}
}
