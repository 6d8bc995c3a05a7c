package sluice_test

import (
	"math"
	"math/rand/v2"
	"slices"
	"strconv"
	"testing"

	"sedge/api"
	"sedge/sluice"
)

// farNumbers are out of every range, and some of their sums and products overflow.
var farNumbers = []int{math.MinInt, math.MinInt + 1, math.MinInt / 2, math.MaxInt / 2, math.MaxInt - 1, math.MaxInt, 1 << 32, -1 << 32, 1 << 31}

// fen makes a fen of its heights, and of pairs of squares and sills.
func fen(w int, heights []int, sluices ...int) api.Fen {
	f := api.Fen{W: w, H: len(heights) / w, Heights: heights}
	for i := 0; i+1 < len(sluices); i += 2 {
		f.Sluices = append(f.Sluices, api.Sluice{At: sluices[i], Sill: sluices[i+1]})
	}
	return f
}

// touch reports whether two squares are neighbours, by their places.
func touch(w, a, b int) bool {
	dx, dy := a%w-b%w, a/w-b/w
	return dx*dx+dy*dy == 1
}

// sill returns the least sill at a square, and whether there is one.
func sill(f api.Fen, at int) (int, bool) {
	least, found := 0, false
	for _, s := range f.Sluices {
		if s.At == at && (!found || s.Sill < least) {
			least, found = s.Sill, true
		}
	}
	return least, found
}

// levelsOf lowers the levels, from above every one, until none can be lowered.
func levelsOf(f api.Fen) []int {
	out := slices.Repeat([]int{9999}, len(f.Heights))
	for changed := true; changed; {
		changed = false
		lower := func(at, to int) {
			if to = max(to, f.Heights[at]); to < out[at] {
				out[at], changed = to, true
			}
		}
		for at := range out {
			if n, ok := sill(f, at); ok {
				lower(at, n)
			}
			for near := range out {
				if touch(f.W, at, near) {
					lower(at, out[near])
				}
			}
		}
	}
	return out
}

// leftOf returns how many steps a way out takes at least from each square
// that goes over nothing above a level, 9999 if there is none.
func leftOf(f api.Fen, level int) []int {
	out := slices.Repeat([]int{9999}, len(f.Heights))
	for at := range out {
		if n, ok := sill(f, at); ok && n <= level && f.Heights[at] <= level {
			out[at] = 0
		}
	}
	for changed := true; changed; {
		changed = false
		for at := range out {
			for near := range out {
				if touch(f.W, at, near) && f.Heights[at] <= level && out[near]+1 < out[at] {
					out[at], changed = out[near]+1, true
				}
			}
		}
	}
	return out
}

// follow returns the way that turns each time to the first neighbour from which
// fewer steps are left.
func follow(w, at int, left []int) []int {
	way := []int{at}
	for left[at] > 0 {
		for near := range left {
			if touch(w, at, near) && left[near] < left[at] {
				way = append(way, near)
				at = near
				break
			}
		}
	}
	return way
}

// waysOut calls f with each way out from a square that has no square twice,
// and with its height.
func waysOut(f api.Fen, at int, call func(way []int, height int)) {
	var way []int
	var walk func(at, height int)
	walk = func(at, height int) {
		way = append(way, at)
		height = max(height, f.Heights[at])
		if n, ok := sill(f, at); ok {
			call(way, max(height, n))
		}
		for near := range f.Heights {
			if touch(f.W, at, near) && !slices.Contains(way, near) {
				walk(near, height)
			}
		}
		way = way[:len(way)-1]
	}
	walk(at, 0)
}

// together gives each square that belongs the least index of those with which
// it hangs together, -1 to others.
func together(w, count int, belongs func(at int) bool, joined func(a, b int) bool) []int {
	out := slices.Repeat([]int{-1}, count)
	for at := range out {
		if belongs(at) {
			out[at] = at
		}
	}
	for changed := true; changed; {
		changed = false
		for a := range out {
			for b := range out {
				if touch(w, a, b) && out[a] != -1 && out[b] != -1 && joined(a, b) && out[b] < out[a] {
					out[a], changed = out[b], true
				}
			}
		}
	}
	return out
}

// someFens have all sizes up to a side, few or many heights, and few or many sluices.
func someFens(count, side int) []api.Fen {
	r := rand.New(rand.NewPCG(uint64(count), uint64(side)))
	var out []api.Fen
	for range count {
		f := api.Fen{W: 1 + r.IntN(side), H: 1 + r.IntN(side)}
		most := []int{1, 2, 3, 5, 9, 50, 1000}[r.IntN(7)]
		for range f.W * f.H {
			f.Heights = append(f.Heights, r.IntN(most+1))
		}
		for range 1 + r.IntN([]int{1, 2, 5, 20}[r.IntN(4)]) {
			f.Sluices = append(f.Sluices, api.Sluice{At: r.IntN(f.W * f.H), Sill: r.IntN(most + 1)})
		}
		out = append(out, f)
	}
	return out
}

// lists calls f with each list of so many numbers from 0 to a greatest one.
func lists(count, greatest int, f func([]int)) {
	l := make([]int, count)
	var fill func(i int)
	fill = func(i int) {
		if i == count {
			f(l)
			return
		}
		for n := range greatest + 1 {
			l[i] = n
			fill(i + 1)
		}
	}
	fill(0)
}

// smallFens are all fens of few squares and heights, with a few choices of sluices.
func smallFens() []api.Fen {
	var out []api.Fen
	for _, c := range [][3]int{{1, 1, 2}, {2, 1, 2}, {1, 2, 2}, {3, 1, 2}, {1, 3, 2}, {2, 2, 2}, {5, 1, 2}, {3, 2, 2}, {2, 3, 1}, {3, 3, 1}} {
		w, count := c[0], c[0]*c[1]
		lists(count, c[2], func(l []int) {
			for _, sluices := range [][]int{{count - 1, 0}, {0, 1}, {0, 2, count - 1, 1}, {count / 2, 0, 0, 0}, {count / 2, 2, count / 2, 1, count - 1, 2}} {
				out = append(out, fen(w, slices.Clone(l), sluices...))
			}
		})
	}
	return out
}

// winding is a ditch that winds through banks; its one sluice is at the one
// end, so that ways out are long.
func winding(floor, bank, sill int) api.Fen {
	f := fen(16, slices.Repeat([]int{floor}, 256), 0, sill)
	for at := range f.Heights {
		x, y := at%16, at/16
		if y%2 == 1 && x != (y/2+1)%2*15 {
			f.Heights[at] = bank
		}
	}
	return f
}

// bowl is a pond of two squares behind a rim of 9, with a gap of 6, and a sluice in a corner.
func bowl() api.Fen {
	return fen(4, []int{9, 9, 9, 9, 9, 2, 3, 6, 9, 9, 9, 1}, 11, 4, 11, 3, 0, 1)
}

// fens are small ones, some of all sizes, and those at the limits.
func fens() []api.Fen {
	out := append(smallFens(), someFens(500, 6)...)
	out = append(out, someFens(40, 16)...)
	out = append(out, bowl(), winding(3, 800, 5), winding(0, 1000, 1000), fen(4, []int{5, 1, 5, 2}, 3, 0))
	for _, n := range []int{0, 1000} {
		for _, to := range []int{0, 1000} {
			out = append(out, fen(16, slices.Repeat([]int{n}, 256), 255, to), fen(16, slices.Repeat([]int{n}, 16), 3, to), fen(1, slices.Repeat([]int{n}, 16), 7, to))
		}
	}
	return out
}

// badFens are not valid, each for a reason of its own.
func badFens() map[string]api.Fen {
	flat := func(w, h int) api.Fen {
		return api.Fen{W: w, H: h, Heights: make([]int, w*h), Sluices: []api.Sluice{{}}}
	}
	out := map[string]api.Fen{
		"zero":              {},
		"a height too few":  {W: 2, H: 2, Heights: make([]int, 3), Sluices: []api.Sluice{{}}},
		"a height too many": {W: 2, H: 2, Heights: make([]int, 5), Sluices: []api.Sluice{{}}},
		"no heights":        {W: 2, H: 2, Sluices: []api.Sluice{{}}},
		"no width":          {H: 2, Sluices: []api.Sluice{{}}},
		"no height":         {W: 2, Sluices: []api.Sluice{{}}},
		"no sluices":        {W: 2, H: 2, Heights: make([]int, 4)},
		"empty sluices":     {W: 2, H: 2, Heights: make([]int, 4), Sluices: []api.Sluice{}},
		"21 sluices":        {W: 2, H: 2, Heights: make([]int, 4), Sluices: make([]api.Sluice, 21)},
		"too wide":          flat(17, 1),
		"too high":          flat(1, 17),
		"too wide and high": flat(17, 17),
		"both below 0":      {W: -2, H: -3, Heights: make([]int, 6), Sluices: []api.Sluice{{}}},
		"far sides":         {W: 1 << 32, H: 1 << 32, Sluices: []api.Sluice{{}}},
		"far sides, odd":    {W: math.MaxInt, H: math.MaxInt, Heights: make([]int, 1), Sluices: []api.Sluice{{}}},
	}
	for _, n := range append([]int{-1, 1001}, farNumbers...) {
		name := strconv.Itoa(n)
		out["width "+name] = api.Fen{W: n, H: 1, Heights: []int{0}, Sluices: []api.Sluice{{}}}
		out["height "+name] = api.Fen{W: 1, H: n, Heights: []int{0}, Sluices: []api.Sluice{{}}}
		for i := range 4 {
			f := flat(2, 2)
			f.Heights[i] = n
			out["height "+name+" at "+strconv.Itoa(i)] = f
		}
	}
	for _, n := range append([]int{-1, 1001}, farNumbers...) {
		out["sill "+strconv.Itoa(n)] = fen(2, make([]int, 4), 1, 3, 0, n)
	}
	for _, n := range append([]int{-1, 4, 5}, farNumbers...) {
		out["sluice at "+strconv.Itoa(n)] = fen(2, make([]int, 4), 1, 3, n, 0)
	}
	return out
}

func isZero(f api.Fen) bool {
	return f.W == 0 && f.H == 0 && len(f.Heights) == 0 && len(f.Sluices) == 0
}

// value fails the test at an error, and gives out the result otherwise.
func value[T any](t *testing.T, what string, f api.Fen, call func(api.Fen) (T, api.Errno)) T {
	t.Helper()
	v, e := call(f)
	if e != api.OK {
		t.Fatalf("%s of %v: error %d", what, f, e)
	}
	return v
}

func out(t *testing.T, f api.Fen, at int) []int {
	t.Helper()
	return value(t, "Out", f, func(f api.Fen) ([]int, api.Errno) { return sluice.Out(f, at) })
}

func height(t *testing.T, f api.Fen, way []int) int {
	t.Helper()
	return value(t, "Height", f, func(f api.Fen) (int, api.Errno) { return sluice.Height(f, way) })
}

func ridge(t *testing.T, f api.Fen, at int) []int {
	t.Helper()
	return value(t, "Ridge", f, func(f api.Fen) ([]int, api.Errno) { return sluice.Ridge(f, at) })
}

func holds(t *testing.T, f api.Fen, at, n int, l []int) bool {
	t.Helper()
	return value(t, "Holds", f, func(f api.Fen) (bool, api.Errno) { return sluice.Holds(f, at, n, l) })
}

// members are the squares of a set of squares, which a number has as its bits.
func members(set, count int) []int {
	var out []int
	for at := range count {
		if set>>at&1 == 1 {
			out = append(out, at)
		}
	}
	return out
}
