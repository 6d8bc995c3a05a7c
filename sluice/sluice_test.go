package sluice_test

import (
	"slices"
	"testing"

	"sedge/api"
	"sedge/sluice"
)

// P3.2: fens at the limits, and those that are not valid.
func TestValid(t *testing.T) {
	for _, f := range fens() {
		if !sluice.Valid(f) {
			t.Errorf("%v is not valid", f)
		}
	}
	many := fen(2, []int{0, 1000, 0, 1000})
	for i := range 20 {
		many.Sluices = append(many.Sluices, api.Sluice{At: i % 4, Sill: i % 2 * 1000})
	}
	for name, f := range map[string]api.Fen{
		"20 sluices":             many,
		"20 at one square":       {W: 1, H: 1, Heights: []int{0}, Sluices: make([]api.Sluice, 20)},
		"the greatest numbers":   fen(1, []int{1000}, 0, 1000),
		"a sluice at the last":   fen(2, make([]int, 4), 3, 0),
		"16 by 16":               fen(16, make([]int, 256), 0, 0),
		"16 by 1":                fen(16, make([]int, 16), 15, 0),
		"1 by 16":                fen(1, make([]int, 16), 15, 0),
		"a sill below its floor": fen(1, []int{7}, 0, 3),
	} {
		if !sluice.Valid(f) {
			t.Errorf("%s is not valid", name)
		}
	}
	for name, f := range badFens() {
		if sluice.Valid(f) {
			t.Errorf("%s is valid", name)
		}
	}
}

// P3.1, R2: ErrFen comes ahead of what is wrong beside it, and with nothing else.
func TestFenErrors(t *testing.T) {
	for name, f := range badFens() {
		check := func(what string, zero bool, e api.Errno) {
			t.Helper()
			if !zero || e != api.ErrFen {
				t.Errorf("%s of %s: a result %v, error %d", what, name, !zero, e)
			}
		}
		for what, call := range map[string]func(api.Fen) ([]int, api.Errno){"Levels": sluice.Levels, "Depths": sluice.Depths, "Ponds": sluice.Ponds, "Drains": sluice.Drains} {
			l, e := call(f)
			check(what, len(l) == 0, e)
		}
		n, e := sluice.Volume(f)
		check("Volume", n == 0, e)
		for _, at := range []int{0, -1, 1 << 40} {
			l, e := sluice.Out(f, at)
			check("Out", len(l) == 0, e)
			l, e = sluice.Ridge(f, at)
			check("Ridge", len(l) == 0, e)
			n, e = sluice.Height(f, []int{at})
			check("Height", n == 0, e)
			is, e := sluice.Holds(f, at, 0, []int{at})
			check("Holds", !is, e)
			is, e = sluice.Holds(f, at, -1, nil)
			check("Holds", !is, e)
			for _, by := range []int{0, -1, 1001} {
				g, e := sluice.Raise(f, at, by)
				check("Raise", isZero(g), e)
			}
		}
		n, e = sluice.Height(f, nil)
		check("Height", n == 0, e)
	}
}

// P3.5.
func TestRaise(t *testing.T) {
	for _, f := range fens() {
		for _, at := range []int{0, len(f.Heights) / 2, len(f.Heights) - 1} {
			top := 1000 - f.Heights[at]
			for _, by := range []int{0, 1, 2, top / 2, top} {
				g, e := sluice.Raise(f, at, by)
				if by > top {
					if !isZero(g) || e != api.ErrLimit {
						t.Errorf("Raise(%v, %d, %d): %v, error %d", f, at, by, g, e)
					}
					continue
				}
				want := slices.Clone(f.Heights)
				want[at] += by
				if e != api.OK || g.W != f.W || g.H != f.H || !slices.Equal(g.Heights, want) || !slices.Equal(g.Sluices, f.Sluices) {
					t.Errorf("Raise(%v, %d, %d): %v, error %d", f, at, by, g, e)
				}
			}
			for _, by := range []int{top + 1, top + 2, 1 << 40, 1<<63 - 1} {
				if g, e := sluice.Raise(f, at, by); !isZero(g) || e != api.ErrLimit {
					t.Errorf("Raise(%v, %d, %d): %v, error %d", f, at, by, g, e)
				}
			}
			for _, by := range []int{-1, -f.Heights[at] - 1, -1 << 63} {
				if g, e := sluice.Raise(f, at, by); !isZero(g) || e != api.ErrArg {
					t.Errorf("Raise(%v, %d, %d): %v, error %d", f, at, by, g, e)
				}
			}
		}
		for _, at := range append([]int{-1, len(f.Heights), len(f.Heights) + 1}, farNumbers...) {
			for _, by := range []int{0, 1, 1001, -1, 1<<63 - 1} { // ErrArg comes ahead of ErrLimit
				if g, e := sluice.Raise(f, at, by); !isZero(g) || e != api.ErrArg {
					t.Errorf("Raise(%v, %d, %d): %v, error %d", f, at, by, g, e)
				}
			}
		}
	}
}

// P3.8: Raise lowers no level, and raises none by more than the square.
func TestRaisedLevels(t *testing.T) {
	for i, f := range fens() {
		was := value(t, "Levels", f, sluice.Levels)
		for k := range 4 {
			at := (i + 31*k) % len(f.Heights)
			by := min(k*k+1, 1000-f.Heights[at])
			g, e := sluice.Raise(f, at, by)
			if e != api.OK {
				t.Fatalf("Raise(%v, %d, %d): error %d", f, at, by, e)
			}
			for square, level := range value(t, "Levels", g, sluice.Levels) {
				if level < was[square] || level > was[square]+by {
					t.Errorf("Raise(%v, %d, %d): the level of %d was %d and is %d", f, at, by, square, was[square], level)
				}
			}
		}
	}
}

// spoil overwrites a result to show whether its memory is shared.
func spoil(l []int) {
	l = l[:cap(l)]
	for i := range l {
		l[i] = -99
	}
}

// R4: no call changes its arguments or gives out their memory.
func TestFensAreKept(t *testing.T) {
	const mark = 77
	few := append(someFens(100, 5), bowl(), fen(1, []int{3}, 0, 5), fen(2, []int{0, 0}, 0, 0))
	for _, f := range few {
		heights := append(slices.Clone(f.Heights), mark, mark, mark)
		sluices := append(slices.Clone(f.Sluices), api.Sluice{At: mark}, api.Sluice{At: mark})
		g := api.Fen{W: f.W, H: f.H, Heights: heights[:len(f.Heights)], Sluices: sluices[:len(f.Sluices)]}
		way := append([]int{0}, mark, mark)
		squares := append([]int{0}, mark, mark)
		sluice.Valid(g)
		sluice.Volume(g)
		sluice.Height(g, way[:1])
		sluice.Holds(g, 0, 5, squares[:1])
		for _, call := range []func(api.Fen) ([]int, api.Errno){sluice.Levels, sluice.Depths, sluice.Ponds, sluice.Drains} {
			l, _ := call(g)
			spoil(l)
		}
		for at := range f.Heights {
			spoil(out(t, g, at))
			spoil(ridge(t, g, at))
		}
		for _, by := range []int{0, 1, -1} {
			h, _ := sluice.Raise(g, 0, by)
			spoil(h.Heights)
			for i := range h.Sluices[:cap(h.Sluices)] {
				h.Sluices[:cap(h.Sluices)][i] = api.Sluice{At: -99}
			}
		}
		if !slices.Equal(heights, append(slices.Clone(f.Heights), mark, mark, mark)) {
			t.Errorf("heights of %v are changed: %v", f, heights)
		}
		if !slices.Equal(sluices, append(slices.Clone(f.Sluices), api.Sluice{At: mark}, api.Sluice{At: mark})) {
			t.Errorf("sluices of %v are changed: %v", f, sluices)
		}
		if !slices.Equal(way, []int{0, mark, mark}) || !slices.Equal(squares, []int{0, mark, mark}) {
			t.Errorf("lists for %v are changed: %v, %v", f, way, squares)
		}
	}
}

// Equal calls have equal results, one after the other.
func TestAgain(t *testing.T) {
	for _, f := range someFens(60, 8) {
		first := value(t, "Drains", f, sluice.Drains)
		for range 3 {
			if l := value(t, "Drains", f, sluice.Drains); !slices.Equal(l, first) {
				t.Errorf("Drains of %v: %v and %v", f, first, l)
			}
		}
	}
}
