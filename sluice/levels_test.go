package sluice_test

import (
	"slices"
	"testing"

	"sedge/api"
	"sedge/sluice"
)

// P3.2: levels, depths and volumes against levels that are lowered step by step.
func TestLevels(t *testing.T) {
	for _, f := range fens() {
		want := levelsOf(f)
		depths, volume := make([]int, len(want)), 0
		for at, level := range want {
			depths[at] = level - f.Heights[at]
			volume += depths[at]
		}
		if l, e := sluice.Levels(f); !slices.Equal(l, want) || e != api.OK {
			t.Errorf("Levels of %v: %v, error %d, want %v", f, l, e, want)
		}
		if l, e := sluice.Depths(f); !slices.Equal(l, depths) || e != api.OK {
			t.Errorf("Depths of %v: %v, error %d, want %v", f, l, e, depths)
		}
		if n, e := sluice.Volume(f); n != volume || e != api.OK {
			t.Errorf("Volume of %v: %d, error %d, want %d", f, n, e, volume)
		}
	}
}

// P3.2, P3.5, P3.6: the chapter's example, and others that are told by hand.
func TestFenExamples(t *testing.T) {
	for _, c := range []struct {
		f                             api.Fen
		levels, depths, ponds, drains []int
		volume                        int
	}{
		{fen(4, []int{5, 1, 5, 2}, 3, 0), []int{5, 5, 5, 2}, []int{0, 4, 0, 0}, []int{-1, 0, -1, -1}, []int{3, 3, 3, 3}, 4},
		{bowl(), []int{9, 9, 9, 9, 9, 6, 6, 6, 9, 9, 9, 3}, []int{0, 0, 0, 0, 0, 4, 3, 0, 0, 0, 0, 2}, []int{-1, -1, -1, -1, -1, 0, 0, -1, -1, -1, -1, 1}, []int{0, 0, 0, 11, 0, 11, 11, 11, 0, 11, 11, 11}, 9},
		{fen(1, []int{3}, 0, 0), []int{3}, []int{0}, []int{-1}, []int{0}, 0},
		{fen(1, []int{3}, 0, 5), []int{5}, []int{2}, []int{0}, []int{0}, 2},
		{fen(1, []int{3}, 0, 9, 0, 5, 0, 7), []int{5}, []int{2}, []int{0}, []int{0}, 2}, // the least sill counts
		{fen(1, []int{0}, 0, 1000), []int{1000}, []int{1000}, []int{0}, []int{0}, 1000},
		{fen(2, []int{0, 0}, 0, 8, 1, 3), []int{3, 3}, []int{3, 3}, []int{0, 0}, []int{1, 1}, 6},                                 // a sluice that is too high to drain its square
		{fen(3, []int{2, 7, 2}, 0, 4, 2, 5), []int{4, 7, 5}, []int{2, 0, 3}, []int{0, -1, 1}, []int{0, 0, 2}, 5},                 // two ponds, a bank between them
		{fen(3, []int{0, 4, 0}, 0, 4, 2, 4), []int{4, 4, 4}, []int{4, 0, 4}, []int{0, -1, 1}, []int{0, 0, 2}, 8},                 // one level, yet two ponds: the bank is dry
		{fen(2, []int{0, 5, 5, 0}, 0, 2, 3, 2), []int{2, 5, 5, 2}, []int{2, 0, 0, 2}, []int{0, -1, -1, 1}, []int{0, 0, 0, 3}, 4}, // by corners nothing hangs together
		{fen(3, []int{9, 9, 0, 0, 9, 9, 9, 0, 9}, 8, 0), []int{9, 9, 9, 9, 9, 9, 9, 9, 9}, []int{0, 0, 9, 9, 0, 0, 0, 9, 0}, []int{-1, -1, 0, 1, -1, -1, -1, 2, -1}, []int{8, 8, 8, 8, 8, 8, 8, 8, 8}, 27},
		{fen(4, []int{0, 0, 0, 0}, 0, 0, 3, 0), []int{0, 0, 0, 0}, []int{0, 0, 0, 0}, []int{-1, -1, -1, -1}, []int{0, 0, 3, 3}, 0}, // the nearest
		{fen(3, []int{0, 0, 0}, 0, 0, 2, 0), []int{0, 0, 0}, []int{0, 0, 0}, []int{-1, -1, -1}, []int{0, 0, 2}, 0},                 // and the first
	} {
		if l, e := sluice.Levels(c.f); !slices.Equal(l, c.levels) || e != api.OK {
			t.Errorf("Levels of %v: %v, error %d", c.f, l, e)
		}
		if l, e := sluice.Depths(c.f); !slices.Equal(l, c.depths) || e != api.OK {
			t.Errorf("Depths of %v: %v, error %d", c.f, l, e)
		}
		if l, e := sluice.Ponds(c.f); !slices.Equal(l, c.ponds) || e != api.OK {
			t.Errorf("Ponds of %v: %v, error %d", c.f, l, e)
		}
		if l, e := sluice.Drains(c.f); !slices.Equal(l, c.drains) || e != api.OK {
			t.Errorf("Drains of %v: %v, error %d", c.f, l, e)
		}
		if n, e := sluice.Volume(c.f); n != c.volume || e != api.OK {
			t.Errorf("Volume of %v: %d, error %d", c.f, n, e)
		}
	}
}

// P3.8: levels and heights, and levels of neighbours.
func TestLevelsOfNeighbours(t *testing.T) {
	for _, f := range fens() {
		levels := value(t, "Levels", f, sluice.Levels)
		for a, level := range levels {
			if level < f.Heights[a] {
				t.Errorf("Levels of %v: %d is below its height", f, a)
			}
			for b := range levels {
				if touch(f.W, a, b) && level > levels[b] && level != f.Heights[a] {
					t.Errorf("Levels of %v: %d stands above %d", f, a, b)
				}
			}
		}
	}
}

// pondsOf numbers ponds by their first squares.
func pondsOf(f api.Fen) []int {
	levels := levelsOf(f)
	numbers := together(f.W, len(levels),
		func(at int) bool { return levels[at] > f.Heights[at] },
		func(a, b int) bool { return levels[a] == levels[b] })
	names := map[int]int{}
	for at, first := range numbers {
		if first == -1 {
			continue
		}
		if first == at {
			names[at] = len(names)
		}
		numbers[at] = names[first]
	}
	return numbers
}

// P3.5.
func TestPonds(t *testing.T) {
	for _, f := range fens() {
		if l, e := sluice.Ponds(f); !slices.Equal(l, pondsOf(f)) || e != api.OK {
			t.Errorf("Ponds of %v: %v, error %d, want %v", f, l, e, pondsOf(f))
		}
	}
}

// P3.9: one level in a pond, banks around it, and the volume.
func TestPondsHaveBanks(t *testing.T) {
	for _, f := range fens() {
		levels := value(t, "Levels", f, sluice.Levels)
		ponds := value(t, "Ponds", f, sluice.Ponds)
		volume := 0
		level := map[int]int{}
		for a, n := range ponds {
			if n == -1 {
				continue
			}
			volume += levels[a] - f.Heights[a]
			if was, ok := level[n]; ok && was != levels[a] {
				t.Errorf("Ponds of %v: %v, a pond with the levels %d and %d", f, ponds, was, levels[a])
			}
			level[n] = levels[a]
			for b := range ponds {
				if touch(f.W, a, b) && ponds[b] != n && f.Heights[b] < levels[a] {
					t.Errorf("Ponds of %v: %v, no bank from %d to %d", f, ponds, a, b)
				}
			}
		}
		if n := value(t, "Volume", f, sluice.Volume); n != volume {
			t.Errorf("Volume of %v: %d, that of the ponds is %d", f, n, volume)
		}
	}
}
