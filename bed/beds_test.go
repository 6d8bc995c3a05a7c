package bed_test

import (
	"slices"
	"testing"

	"sedge/api"
	"sedge/bed"
)

// sets gives each place of a grid that belongs the least index of those with
// which it hangs together, -1 to others: it lowers the numbers of places that
// touch until none is left to be lowered.
func sets(g grid, belongs, touch func(x, y int) bool) []int {
	w := len(g[0])
	out := make([]int, w*len(g))
	for i := range out {
		out[i] = -1
		if belongs(i%w, i/w) {
			out[i] = i
		}
	}
	for changed := true; changed; {
		changed = false
		for i := range out {
			for dy := -1; dy <= 1; dy++ {
				for dx := -1; dx <= 1; dx++ {
					x, y := i%w+dx, i/w+dy
					if g.at(x, y) == 0 || !touch(dx, dy) || out[i] == -1 || out[y*w+x] == -1 {
						continue
					}
					if out[y*w+x] < out[i] {
						out[i] = out[y*w+x]
						changed = true
					}
				}
			}
		}
	}
	return out
}

// bedsOf numbers the beds of a grid by their first squares.
func bedsOf(g grid) (numbers []int, all int) {
	numbers = sets(g, g.reed, func(dx, dy int) bool { return dx*dx+dy*dy == 1 })
	names := map[int]int{}
	for i, first := range numbers {
		if first == -1 {
			continue
		}
		if first == i {
			names[i] = len(names)
		}
		numbers[i] = names[first]
	}
	return numbers, len(names)
}

// poolsOf counts the sets of squares without reed that have none on the rim.
func poolsOf(g grid) int {
	w, h := len(g[0]), len(g)
	numbers := sets(g, func(x, y int) bool { return !g.reed(x, y) }, func(dx, dy int) bool { return true })
	inside := map[int]bool{}
	for i, first := range numbers {
		if first == i {
			inside[i] = true
		}
	}
	for i, first := range numbers {
		if x, y := i%w, i/w; x == 0 || y == 0 || x == w-1 || y == h-1 {
			delete(inside, first)
		}
	}
	return len(inside)
}

// P2.3, P2.4: beds, sizes, sides, pools and windows by counts of their own.
func TestBeds(t *testing.T) {
	for _, m := range maps() {
		g := rows(m)
		numbers, all := bedsOf(g)
		sizes, sides := make([]int, all), make([]int, all)
		windows := 0
		for i, n := range numbers {
			x, y := i%m.W, i/m.W
			if n != -1 {
				sizes[n]++
				sides[n] += 4 - g.near(x, y)
				windows += 2 // in halves
				windows -= g.near(x, y)
			}
			if g.reed(x, y) && g.reed(x+1, y) && g.reed(x, y+1) && g.reed(x+1, y+1) {
				windows += 2
			}
		}
		if l, e := bed.Beds(m); !slices.Equal(l, numbers) || e != api.OK {
			t.Errorf("Beds of %s: %v, error %d, want %v", text(m), l, e, numbers)
		}
		if l, e := bed.Sizes(m); !slices.Equal(l, sizes) || e != api.OK {
			t.Errorf("Sizes of %s: %v, error %d, want %v", text(m), l, e, sizes)
		}
		if l, e := bed.Sides(m); !slices.Equal(l, sides) || e != api.OK {
			t.Errorf("Sides of %s: %v, error %d, want %v", text(m), l, e, sides)
		}
		if n, e := bed.Windows(m); 2*n != windows || e != api.OK {
			t.Errorf("Windows of %s: %d, error %d, want %d halves", text(m), n, e, windows)
		}
		if n, e := bed.Pools(m); n != poolsOf(g) || e != api.OK {
			t.Errorf("Pools of %s: %d, error %d, want %d", text(m), n, e, poolsOf(g))
		}
	}
}

// P2.3, P2.4: the chapter's example, and others that are counted by hand.
func TestBedExamples(t *testing.T) {
	for _, c := range []struct {
		s                  string
		beds, sizes, sides []int
		pools, windows     int
	}{
		{"rrr/rwr/rrr", []int{0, 0, 0, 0, -1, 0, 0, 0, 0}, []int{8}, []int{16}, 1, 0},
		{"r", []int{0}, []int{1}, []int{4}, 0, 1},
		{"w", []int{-1}, nil, nil, 0, 0},
		{"rp/pr", []int{0, -1, -1, 1}, []int{1, 1}, []int{4, 4}, 0, 2},
		{"wwr/rwr/rww", []int{-1, -1, 0, 1, -1, 0, 1, -1, -1}, []int{2, 2}, []int{6, 6}, 0, 2},             // numbers by the first squares, not by columns
		{"wrw/rwr/wrw", []int{-1, 0, -1, 1, -1, 2, -1, 3, -1}, []int{1, 1, 1, 1}, []int{4, 4, 4, 4}, 0, 4}, // the middle hangs together with the corners
		{"rrr/rsr/rrp", []int{0, 0, 0, 0, -1, 0, 0, 0, -1}, []int{7}, []int{16}, 0, 1},                     // and with one corner
		{"rrrr/rwpr/rrrr", []int{0, 0, 0, 0, 0, -1, -1, 0, 0, 0, 0, 0}, []int{10}, []int{20}, 1, 0},
		{"rrrr/rwrr/rrsr/rrrr", []int{0, 0, 0, 0, 0, -1, 0, 0, 0, 0, -1, 0, 0, 0, 0, 0}, []int{14}, []int{24}, 1, 0},
		{"rrrrr/rwrwr/rrrrr", []int{0, 0, 0, 0, 0, 0, -1, 0, -1, 0, 0, 0, 0, 0, 0}, []int{13}, []int{24}, 2, -1},
		{"rrrrr/rwwwr/rwrwr/rwwwr/rrrrr", []int{0, 0, 0, 0, 0, 0, -1, -1, -1, 0, 0, -1, 1, -1, 0, 0, -1, -1, -1, 0, 0, 0, 0, 0, 0}, []int{16, 1}, []int{32, 4}, 1, 1},
		{"rwr/rwr/rrr", []int{0, -1, 0, 0, -1, 0, 0, 0, 0}, []int{7}, []int{16}, 0, 1},
	} {
		m := read(c.s)
		if l := value(t, "Beds", m, bed.Beds); !slices.Equal(l, c.beds) {
			t.Errorf("Beds of %s: %v", c.s, l)
		}
		if l := value(t, "Sizes", m, bed.Sizes); !slices.Equal(l, c.sizes) {
			t.Errorf("Sizes of %s: %v", c.s, l)
		}
		if l := value(t, "Sides", m, bed.Sides); !slices.Equal(l, c.sides) {
			t.Errorf("Sides of %s: %v", c.s, l)
		}
		if n := value(t, "Pools", m, bed.Pools); n != c.pools {
			t.Errorf("Pools of %s: %d", c.s, n)
		}
		if n := value(t, "Windows", m, bed.Windows); n != c.windows {
			t.Errorf("Windows of %s: %d", c.s, n)
		}
	}
	if l := value(t, "Sizes", checks(30), bed.Sizes); len(l) != 450 || slices.Max(l) != 1 {
		t.Errorf("Sizes of checks: %v", l)
	}
	if l := value(t, "Sizes", winding(30), bed.Sizes); len(l) != 1 || l[0] != 15*30+15 {
		t.Errorf("Sizes of the winding bed: %v", l)
	}
	if n := value(t, "Pools", rings(30, 1, 2), bed.Pools); n != 7 {
		t.Errorf("Pools of rings: %d", n)
	}
}

// P2.8: the windows tell the beds less the pools.
func TestWindowsTell(t *testing.T) {
	check := func(m api.Map) {
		beds, pools := len(value(t, "Sizes", m, bed.Sizes)), value(t, "Pools", m, bed.Pools)
		if n := value(t, "Windows", m, bed.Windows); n != beds-pools {
			t.Errorf("%s: Windows %d, %d beds, %d pools", text(m), n, beds, pools)
		}
	}
	for _, m := range maps() {
		check(m)
	}
	allMaps(4, 4, 2, check)
	allMaps(5, 3, 2, check)
}

// P2.9: sizes add up to the reed, neighbours have one bed, sides add up.
func TestBedsAddUp(t *testing.T) {
	for _, m := range maps() {
		numbers := value(t, "Beds", m, bed.Beds)
		pairs := 0
		for i, n := range numbers {
			if (n == -1) != (m.Squares[i] != api.Reed) {
				t.Errorf("Beds of %s: %d at %d", text(m), n, i)
			}
			if i%m.W > 0 && n != -1 && numbers[i-1] != -1 {
				pairs++
				if numbers[i-1] != n {
					t.Errorf("Beds of %s: %d and %d at %d", text(m), numbers[i-1], n, i)
				}
			}
			if i >= m.W && n != -1 && numbers[i-m.W] != -1 {
				pairs++
				if numbers[i-m.W] != n {
					t.Errorf("Beds of %s: %d and %d at %d", text(m), numbers[i-m.W], n, i)
				}
			}
		}
		reed := count(t, m, api.Reed)
		if n := total(value(t, "Sizes", m, bed.Sizes)); n != reed {
			t.Errorf("Sizes of %s add up to %d, want %d", text(m), n, reed)
		}
		if n := total(value(t, "Sides", m, bed.Sides)); n != 4*reed-2*pairs {
			t.Errorf("Sides of %s add up to %d, want %d", text(m), n, 4*reed-2*pairs)
		}
	}
}

func total(l []int) int {
	sum := 0
	for _, n := range l {
		sum += n
	}
	return sum
}

// R4: what is asked of a map does not change it, and results are new memory.
func TestMapsAreKept(t *testing.T) {
	list := func(f func(api.Map) ([]int, api.Errno)) func(api.Map) []int {
		return func(m api.Map) []int {
			l, _ := f(m)
			return l
		}
	}
	number := func(f func(api.Map) (int, api.Errno)) func(api.Map) []int {
		return func(m api.Map) []int {
			n, _ := f(m)
			return []int{n}
		}
	}
	drawn := func(f func(api.Map) (api.Map, api.Errno)) func(api.Map) []int {
		return func(m api.Map) []int {
			out, _ := f(m)
			return out.Squares
		}
	}
	for _, m := range append(someMaps(200, 6), full(3, 3, 4), full(3, 3, 1), read("r"), read("rwr")) {
		unchanged(t, "Valid", m, func(m api.Map) []int { bed.Valid(m); return nil })
		unchanged(t, "Format", m, func(m api.Map) []int { bed.Format(m); return nil })
		unchanged(t, "Count", m, func(m api.Map) []int { bed.Count(m, 1); return nil })
		unchanged(t, "Beds", m, list(bed.Beds))
		unchanged(t, "Sizes", m, list(bed.Sizes))
		unchanged(t, "Sides", m, list(bed.Sides))
		unchanged(t, "Pools", m, number(bed.Pools))
		unchanged(t, "Windows", m, number(bed.Windows))
		unchanged(t, "Spread", m, drawn(bed.Spread))
		unchanged(t, "Mow", m, drawn(bed.Mow))
		unchanged(t, "Flip", m, drawn(bed.Flip))
		unchanged(t, "Turn", m, drawn(bed.Turn))
		for i := range m.Squares {
			unchanged(t, "Far", m, func(m api.Map) []int { l, _ := bed.Far(m, i); return l })
			unchanged(t, "Way", m, func(m api.Map) []int { l, _ := bed.Way(m, i, 0); return l })
			unchanged(t, "IsWay", m, func(m api.Map) []int { bed.IsWay(m, []int{0, i}); return nil })
		}
	}
}
