package sluice_test

import (
	"slices"
	"testing"

	"sedge/api"
	"sedge/sluice"
)

// isRidge decides by the words of the chapter whether a set is a ridge.
func isRidge(f api.Fen, at, n int, set []int) bool {
	if !slices.Contains(set, at) {
		return false
	}
	if f.Heights[at] >= n {
		return true
	}
	for _, a := range set {
		if f.Heights[a] >= n {
			continue
		}
		for _, s := range f.Sluices {
			if s.At == a && s.Sill < n {
				return false
			}
		}
		for b, height := range f.Heights {
			if touch(f.W, a, b) && height < n && !slices.Contains(set, b) {
				return false
			}
		}
	}
	return true
}

// P3.4: ridges against sets of squares whose numbers are lowered step by step.
func TestRidge(t *testing.T) {
	for _, f := range fens() {
		sets := map[int][]int{}
		for at, level := range levelsOf(f) {
			want := []int{at}
			if level > f.Heights[at] {
				if sets[level] == nil {
					sets[level] = together(f.W, len(f.Heights),
						func(a int) bool { return f.Heights[a] < level },
						func(a, b int) bool { return true })
				}
				want = nil
				for a, first := range sets[level] {
					if first == sets[level][at] {
						want = append(want, a)
					}
				}
			}
			if l := ridge(t, f, at); !slices.Equal(l, want) {
				t.Errorf("Ridge(%v, %d): %v, want %v", f, at, l, want)
			}
		}
	}
}

// P3.4: ridges that are told by hand.
func TestRidgeExamples(t *testing.T) {
	for _, c := range []struct {
		f    api.Fen
		at   int
		want []int
	}{
		{fen(4, []int{5, 1, 5, 2}, 3, 0), 1, []int{1}},
		{fen(4, []int{5, 1, 5, 2}, 3, 0), 0, []int{0}},
		{bowl(), 6, []int{5, 6}},
		{bowl(), 7, []int{7}}, // its depth is 0: what is less high around it is none of the ridge
		{bowl(), 11, []int{11}},
		{fen(3, []int{1, 4, 1, 0, 2, 9, 9, 3, 1}, 0, 4, 8, 9), 4, []int{0, 3, 4, 7, 8}}, // as far as it is less than 4 high
		{fen(1, []int{0, 1, 2}, 2, 3), 0, []int{0, 1, 2}},
	} {
		if l := ridge(t, c.f, c.at); !slices.Equal(l, c.want) {
			t.Errorf("Ridge(%v, %d): %v, want %v", c.f, c.at, l, c.want)
		}
	}
}

// P3.4, P3.8: Holds by the chapter's words, for each set of squares of small
// fens and each number about; no set holds for more than the level.
func TestHolds(t *testing.T) {
	few := append(someFens(60, 3), fen(4, []int{5, 1, 5, 2}, 3, 0), fen(2, []int{0, 1, 1, 0}, 3, 2), fen(3, []int{1, 4, 1, 0, 2, 9, 9, 3, 1}, 0, 4, 8, 9, 8, 5))
	for _, f := range few {
		count := len(f.Heights)
		levels := value(t, "Levels", f, sluice.Levels)
		numbers := []int{0, 1000}
		for _, n := range append(slices.Clone(f.Heights), levels...) {
			numbers = append(numbers, n, min(n+1, 1000))
		}
		slices.Sort(numbers)
		for _, n := range slices.Compact(numbers) {
			for set := range 1 << count {
				l := members(set, count)
				for at, level := range levels {
					is := holds(t, f, at, n, l)
					if is != isRidge(f, at, n, l) {
						t.Errorf("Holds(%v, %d, %d, %v): %v", f, at, n, l, is)
					}
					if is && n > level {
						t.Errorf("Holds(%v, %d, %d, %v), above the level %d", f, at, n, l, level)
					}
				}
			}
		}
	}
}

// P3.8: Ridge holds for the level, and for no more.
func TestRidgeHolds(t *testing.T) {
	for _, f := range fens() {
		for at, level := range value(t, "Levels", f, sluice.Levels) {
			l := ridge(t, f, at)
			if !slices.IsSorted(l) || !slices.Contains(l, at) {
				t.Errorf("Ridge(%v, %d): %v", f, at, l)
			}
			if !holds(t, f, at, level, l) {
				t.Errorf("Ridge(%v, %d): %v does not hold for %d", f, at, l, level)
			}
			if level < 1000 && (holds(t, f, at, level+1, l) || holds(t, f, at, level+1, members(-1, len(f.Heights)))) {
				t.Errorf("a ridge for %v and %d holds for %d", f, at, level+1)
			}
		}
	}
}

// P3.4: sets that are told by hand.
func TestHoldsExamples(t *testing.T) {
	f := bowl()
	for _, c := range []struct {
		at, n int
		ridge []int
		want  bool
	}{
		{6, 6, []int{5, 6}, true},
		{6, 5, []int{5, 6}, true},
		{6, 7, []int{5, 6}, false},
		{6, 7, []int{5, 6, 7}, false},
		{6, 7, []int{5, 6, 7, 11}, false},
		{6, 6, []int{6}, false},
		{6, 6, []int{5}, false},
		{6, 6, nil, false},
		{6, 3, []int{6}, true}, // at least as high
		{6, 0, []int{6}, true},
		{6, 0, nil, false},
		{6, 0, []int{5}, false},
		{6, 6, []int{0, 5, 6}, true},    // more squares do not matter if they are high enough
		{6, 6, []int{5, 6, 7, 8}, true}, // 7 is 6 high
		{6, 6, []int{5, 6, 11}, false},  // 11 has a sluice at 3
		{6, 3, []int{5, 6, 11}, true},   // which is not asked for
		{5, 3, []int{5}, true},
		{5, 3, []int{5, 11}, true},     // a sill of 3 is not below 3
		{5, 4, []int{5, 6, 11}, false}, // but below 4
		{11, 3, []int{11}, true},
		{11, 4, []int{11}, false}, // the least sill counts
		{0, 9, []int{0}, true},    // the sill of 1 lies below
		{0, 10, []int{0}, false},
		{0, 1000, members(4095, 12), false},
	} {
		if is, e := sluice.Holds(f, c.at, c.n, c.ridge); is != c.want || e != api.OK {
			t.Errorf("Holds(%d, %d, %v): %v, error %d", c.at, c.n, c.ridge, is, e)
		}
	}
	high := fen(3, []int{1000, 1000, 0}, 2, 1000)
	if !holds(t, high, 0, 1000, []int{0}) || !holds(t, high, 2, 1000, []int{2}) {
		t.Errorf("Holds: not for the greatest number")
	}
}

// P3.4: squares, numbers and ridges that are none.
func TestHoldsErrors(t *testing.T) {
	f := bowl()
	check := func(at, n int, l []int) {
		t.Helper()
		if is, e := sluice.Holds(f, at, n, l); is || e != api.ErrArg {
			t.Errorf("Holds(%d, %d, %v): %v, error %d", at, n, l, is, e)
		}
	}
	for _, at := range append([]int{-1, 12, 13}, farNumbers...) {
		check(at, 0, []int{6})
		check(at, 0, nil)
		check(6, 0, []int{at})
		check(6, 0, []int{6, at})
		check(6, 0, []int{at, 6})
		check(0, 0, []int{6, at}) // also if the square is not of it
	}
	for _, n := range append([]int{-1, 1001}, farNumbers...) {
		check(6, n, []int{6})
		check(6, n, nil)
		check(0, n, []int{6})
	}
	for _, l := range [][]int{{6, 6}, {6, 5}, {5, 6, 6}, {5, 5, 6}, {6, 7, 5}, {5, 7, 6}, {0, 0}, {1, 0}, {11, 10}} {
		check(6, 6, l)
		check(6, 0, l)
		check(3, 9, l)
	}
}
