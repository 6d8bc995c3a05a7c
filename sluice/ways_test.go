package sluice_test

import (
	"slices"
	"testing"

	"sedge/api"
	"sedge/sluice"
)

// comesFirst reports whether a way is shorter than another one, or as long and
// less.
func comesFirst(a, b []int) bool {
	if len(a) != len(b) {
		return len(a) < len(b)
	}
	return slices.Compare(a, b) < 0
}

// P3.3, P3.6, P3.8: among all ways out of small fens none is lower than the
// level, and Out is the first of the shortest ones that are not higher.
func TestAllWaysOut(t *testing.T) {
	for _, f := range append(smallFens(), someFens(200, 3)...) {
		levels, drains := value(t, "Levels", f, sluice.Levels), value(t, "Drains", f, sluice.Drains)
		for at, level := range levels {
			var best []int
			waysOut(f, at, func(way []int, want int) {
				if n := height(t, f, way); n != want || n < level {
					t.Errorf("Height(%v, %v): %d, want %d; the level is %d", f, way, n, want, level)
				}
				if want == level && (best == nil || comesFirst(way, best)) {
					best = slices.Clone(way)
				}
			})
			if l := out(t, f, at); !slices.Equal(l, best) {
				t.Errorf("Out(%v, %d): %v, want %v", f, at, l, best)
			}
			if drains[at] != best[len(best)-1] {
				t.Errorf("Drains of %v: %v, want %d for %d", f, drains, best[len(best)-1], at)
			}
		}
	}
}

// P3.3, P3.6, P3.8: ways out of all fens are as high as the level, as short as
// they can be, and turn to the first neighbour that is nearer to the end.
func TestOut(t *testing.T) {
	for _, f := range fens() {
		drains := value(t, "Drains", f, sluice.Drains)
		left := map[int][]int{}
		for at, level := range levelsOf(f) {
			if left[level] == nil {
				left[level] = leftOf(f, level)
			}
			want := follow(f.W, at, left[level])
			way := out(t, f, at)
			if !slices.Equal(way, want) {
				t.Errorf("Out(%v, %d): %v, want %v", f, at, way, want)
			}
			if n := height(t, f, way); n != level {
				t.Errorf("Height of Out(%v, %d): %d, want %d", f, at, n, level)
			}
			if drains[at] != way[len(way)-1] {
				t.Errorf("Drains of %v: %v, want %d for %d", f, drains, way[len(way)-1], at)
			}
		}
	}
}

// P3.3: ways that are told by hand.
func TestWayExamples(t *testing.T) {
	for _, c := range []struct {
		f    api.Fen
		at   int
		want []int
	}{
		{fen(4, []int{5, 1, 5, 2}, 3, 0), 1, []int{1, 2, 3}},
		{bowl(), 5, []int{5, 6, 7, 11}},
		{bowl(), 8, []int{8, 4, 0}},
		{fen(1, []int{7}, 0, 3), 0, []int{0}},
		{fen(3, make([]int, 9), 8, 0), 0, []int{0, 1, 2, 5, 8}},                         // of the shortest ones the first
		{fen(3, make([]int, 9), 0, 0), 8, []int{8, 5, 2, 1, 0}},                         // square by square: 5 before 7, 2 before 4
		{fen(3, make([]int, 9), 3, 0, 5, 0, 1, 0, 7, 0), 4, []int{4, 1}},                // up before left, right and down
		{fen(3, make([]int, 9), 5, 0, 7, 0, 3, 0), 4, []int{4, 3}},                      // left before right and down
		{fen(3, make([]int, 9), 7, 0, 5, 0), 4, []int{4, 5}},                            // right before down
		{fen(3, make([]int, 9), 6, 0, 2, 0), 4, []int{4, 1, 2}},                         // to either corner it is as far
		{fen(4, []int{2, 0, 0, 1}, 0, 0, 3, 0), 1, []int{1, 2, 3}},                      // farther, but lower
		{fen(4, []int{1, 0, 0, 1}, 0, 0, 3, 0), 1, []int{1, 0}},                         // as low, and nearer
		{fen(4, []int{3, 0, 0, 0}, 1, 4, 3, 2), 0, []int{0, 1, 2, 3}},                   // through a sluice that is too high
		{fen(4, []int{5, 0, 0, 0}, 1, 4, 3, 2), 0, []int{0, 1}},                         // but not for what stands higher
		{fen(3, []int{0, 9, 0, 0, 9, 0, 0, 0, 0}, 2, 3), 0, []int{0, 3, 6, 7, 8, 5, 2}}, // around a bank
		{fen(3, []int{9, 9, 0, 0, 9, 0, 0, 0, 0}, 2, 3), 0, []int{0, 1, 2}},             // over the bank, from its top
	} {
		if way := out(t, c.f, c.at); !slices.Equal(way, c.want) {
			t.Errorf("Out(%v, %d): %v, want %v", c.f, c.at, way, c.want)
		}
	}
	if way := out(t, winding(0, 1000, 1000), 255); len(way) != 31 {
		t.Errorf("Out over the banks: %v", way)
	}
	f := winding(0, 1000, 0)
	inmost, long := 0, 0
	for at := range f.Heights {
		if n := len(out(t, f, at)); f.Heights[at] == 0 && n > long {
			inmost, long = at, n
		}
	}
	if long < 100 || height(t, f, out(t, f, inmost)) != 0 {
		t.Errorf("Out of the ditch: %v", out(t, f, inmost))
	}
}

// P3.3: squares from which there is no way.
func TestOutErrors(t *testing.T) {
	for _, f := range []api.Fen{bowl(), fen(1, []int{3}, 0, 0)} {
		for _, at := range append([]int{-1, len(f.Heights), len(f.Heights) + 1}, farNumbers...) {
			if l, e := sluice.Out(f, at); len(l) != 0 || e != api.ErrArg {
				t.Errorf("Out(%v, %d): %v, error %d", f, at, l, e)
			}
			if l, e := sluice.Ridge(f, at); len(l) != 0 || e != api.ErrArg {
				t.Errorf("Ridge(%v, %d): %v, error %d", f, at, l, e)
			}
		}
	}
}

// P3.3: ways out, and lists that are none.
func TestHeight(t *testing.T) {
	f := bowl()
	for _, c := range []struct {
		way  []int
		want int
	}{
		{[]int{5, 6, 7, 11}, 6},
		{[]int{11}, 3},
		{[]int{0}, 9},
		{[]int{5, 1, 0}, 9},
		{[]int{11, 7, 11}, 6},       // a square may come again
		{[]int{11, 7, 3, 7, 11}, 9}, // and a way may go on behind a sluice
	} {
		if n, e := sluice.Height(f, c.way); n != c.want || e != api.OK {
			t.Errorf("Height(%v): %d, error %d, want %d", c.way, n, e, c.want)
		}
	}
	bad := [][]int{nil, {}, {5}, {5, 6}, {5, 11}, {11, 11}, {0, 0}, {10, 5, 6, 7, 11, 10}, {12}, {-1}, {11, 12}, {12, 11}, {-1, 0}, {0, -1}, {3, 4, 0}, {4, 3, 7, 11}, {7, 8, 4, 0}, {6, 11}, {1, 4, 0}, {2, 0}, {8, 0}, {15, 11}, {11, 15, 11}}
	for _, n := range farNumbers {
		bad = append(bad, []int{n}, []int{n, 0}, []int{7, n, 11}, []int{0, n})
	}
	for _, way := range bad {
		if n, e := sluice.Height(f, way); n != 0 || e != api.ErrArg {
			t.Errorf("Height(%v): %d, error %d", way, n, e)
		}
	}
	// every list of few squares of three by three, and of what lies around them
	g := fen(3, []int{4, 1, 2, 3, 0, 5, 2, 2, 1}, 8, 3, 2, 7, 8, 0)
	lists(4, 10, func(l []int) {
		l = slices.Clone(l)
		for i := range l {
			l[i]--
		}
		for len(l) > 0 {
			checkHeight(t, g, l)
			l = l[1:]
		}
	})
	// long ways
	long := slices.Repeat([]int{11, 7}, 50000)
	if n, e := sluice.Height(f, append(long, 11)); n != 6 || e != api.OK {
		t.Errorf("Height of a long way: %d, error %d", n, e)
	}
	if n, e := sluice.Height(f, long); n != 0 || e != api.ErrArg {
		t.Errorf("Height of a long way to no sluice: %d, error %d", n, e)
	}
}

// checkHeight compares the height of a list with the words of the chapter.
func checkHeight(t *testing.T, f api.Fen, l []int) {
	t.Helper()
	want, isWay := 0, true
	for i, at := range l {
		if at < 0 || at >= len(f.Heights) || i > 0 && !touch(f.W, at, l[i-1]) {
			isWay = false
			break
		}
		want = max(want, f.Heights[at])
	}
	if isWay {
		n, ok := sill(f, l[len(l)-1])
		want, isWay = max(want, n), ok
	}
	n, e := sluice.Height(f, l)
	if isWay && (n != want || e != api.OK) || !isWay && (n != 0 || e != api.ErrArg) {
		t.Errorf("Height(%v): %d, error %d, want %d, %v", l, n, e, want, isWay)
	}
}
