package thatch_test

import (
	"math/rand/v2"
	"slices"
	"testing"

	"sedge/api"
	"sedge/thatch"
)

// P8.4: coats that are valid, and those that are not.
func TestValidCoat(t *testing.T) {
	for _, c := range coats() {
		if !thatch.ValidCoat(c) {
			t.Errorf("%v is not valid", c)
		}
	}
	for _, c := range badCoats() {
		if thatch.ValidCoat(c) {
			t.Errorf("%v is valid", shown(c))
		}
	}
	if !thatch.ValidCoat(api.Coat{Slant: 20, Gauge: 8, Reed: 18, Missing: []int{}}) {
		t.Error("an empty list of missing courses is not valid")
	}
}

// shown is a coat without most of a long list.
func shown(c api.Coat) api.Coat {
	c.Missing = c.Missing[:min(len(c.Missing), 10)]
	return c
}

// P8.4: all lists of missing courses that are short.
func TestMissing(t *testing.T) {
	for slant := 1; slant <= 20; slant++ {
		for count := range 4 {
			for l := range lists(count, 8) {
				c := api.Coat{Slant: slant, Gauge: 4, Reed: 6}
				_, courses := laid(c)
				want := true
				for i := range l {
					c.Missing = append(c.Missing, l[i]-1)
					want = want && l[i] >= 1 && l[i] <= courses && (i == 0 || l[i] > l[i-1])
				}
				if thatch.ValidCoat(c) != want {
					t.Errorf("ValidCoat(%v): %v", c, !want)
				}
			}
		}
	}
}

// checkCoat looks at all functions of a coat but Thin, and returns its layers.
func checkCoat(t *testing.T, c api.Coat) []int {
	t.Helper()
	want, courses := laid(c)
	if n, e := thatch.Courses(c); n != courses || e != api.OK {
		t.Errorf("Courses(%v): %d, error %d, want %d", c, n, e, courses)
	}
	least, e := thatch.Least(c)
	if least != slices.Min(want) || e != api.OK {
		t.Errorf("Least(%v): %d, error %d, want %d", c, least, e, slices.Min(want))
	}
	sum := 0
	for inch := range c.Slant {
		n, e := thatch.Layers(c, inch)
		if n != want[inch] || n < least || e != api.OK {
			t.Errorf("Layers(%v, %d): %d, error %d, want %d, Least %d", c, inch, n, e, want[inch], least)
		}
		if len(c.Missing) == 0 && inch >= c.Reed && n < c.Reed/c.Gauge {
			t.Errorf("Layers(%v, %d): %d, less than %d", c, inch, n, c.Reed/c.Gauge)
		}
		sum += n
	}
	if n, e := thatch.Reed(c); n != sum || e != api.OK {
		t.Errorf("Reed(%v): %d, error %d, want %d", c, n, e, sum)
	}
	for _, inch := range append([]int{-1, c.Slant, c.Slant + 1}, farNumbers...) {
		if n, e := thatch.Layers(c, inch); n != 0 || e != api.ErrArg {
			t.Errorf("Layers(%v, %d): %d, error %d", c, inch, n, e)
		}
	}
	return want
}

// thin are the places with fewer than so many layers, from each inch that has one
// ahead of it that is not thin.
func thin(over []int, layers int) [][2]int {
	var out [][2]int
	isThin := func(inch int) bool { return inch >= 0 && inch < len(over) && over[inch] < layers }
	for first := range over {
		if !isThin(first) || isThin(first-1) {
			continue
		}
		last := first
		for isThin(last + 1) {
			last++
		}
		out = append(out, [2]int{first, last})
	}
	return out
}

// checkThin looks at Thin for so many layers, and that it has just the inches
// with too few.
func checkThin(t *testing.T, c api.Coat, over []int, layers int) {
	t.Helper()
	l, e := thatch.Thin(c, layers)
	if want := thin(over, layers); !slices.Equal(l, want) || e != api.OK {
		t.Errorf("Thin(%v, %d): %v, error %d, want %v", c, layers, l, e, want)
	}
	inThin := make([]int, len(over))
	for _, place := range l {
		for inch := max(place[0], 0); inch <= min(place[1], len(over)-1); inch++ {
			inThin[inch]++
		}
	}
	for inch, n := range over {
		if n < layers != (inThin[inch] == 1) || inThin[inch] > 1 {
			t.Errorf("Thin(%v, %d): %v has the inch %d %d times", c, layers, l, inch, inThin[inch])
		}
	}
}

// P8.4, P8.8: all small coats.
func TestCoats(t *testing.T) {
	for _, c := range smallCoats() {
		over := checkCoat(t, c)
		for layers := range c.Slant + 2 {
			checkThin(t, c, over, layers)
		}
	}
}

// P8.4, P8.8: any coats.
func TestCoatsOfMany(t *testing.T) {
	for _, c := range larger() {
		over := checkCoat(t, c)
		least, most := slices.Min(over), slices.Max(over)
		for _, layers := range []int{0, 1, 2, least, least + 1, (least + most) / 2, most, most + 1, 999, 1000} {
			if most > 0 || layers < 999 {
				checkThin(t, c, over, layers)
			}
		}
	}
}

// P8.8: one course more that is missing makes no layer greater, and takes away as
// much reed as it had.
func TestOneMoreMissing(t *testing.T) {
	r := rand.New(rand.NewPCG(8, 8))
	for i, c := range coats() {
		_, courses := laid(c)
		course := r.IntN(courses)
		if i%3 > 0 || len(c.Missing) == 100 || slices.Contains(c.Missing, course) {
			continue
		}
		less := c
		less.Missing = append(slices.Clone(c.Missing), course)
		slices.Sort(less.Missing)
		for inch := range c.Slant {
			n, e := thatch.Layers(c, inch)
			m, f := thatch.Layers(less, inch)
			is := inch >= course*c.Gauge && inch < course*c.Gauge+c.Reed
			if m > n || is != (m == n-1) || e != api.OK || f != api.OK {
				t.Errorf("Layers(%v, %d): %d, error %d; without %d %d, error %d", c, inch, n, e, course, m, f)
			}
		}
		n, e := thatch.Reed(c)
		m, f := thatch.Reed(less)
		if n-m != min(c.Reed, c.Slant-course*c.Gauge) || e != api.OK || f != api.OK {
			t.Errorf("Reed(%v): %d, error %d; without %d %d, error %d", c, n, e, course, m, f)
		}
	}
}

// P8.4: the chapter's second example, and others that are counted by hand.
func TestCoatExamples(t *testing.T) {
	for _, c := range []struct {
		c                    api.Coat
		courses, least, reed int
		layers               int
		thin                 [][2]int
	}{
		{api.Coat{Slant: 20, Gauge: 8, Reed: 18}, 3, 1, 34, 2, [][2]int{{0, 7}}},
		{api.Coat{Slant: 20, Gauge: 8, Reed: 18}, 3, 1, 34, 3, [][2]int{{0, 15}, {18, 19}}},
		{api.Coat{Slant: 20, Gauge: 8, Reed: 18}, 3, 1, 34, 1, nil},
		{api.Coat{Slant: 20, Gauge: 8, Reed: 18}, 3, 1, 34, 0, nil},
		{api.Coat{Slant: 20, Gauge: 8, Reed: 18}, 3, 1, 34, 1000, [][2]int{{0, 19}}},
		{api.Coat{Slant: 20, Gauge: 8, Reed: 18, Missing: []int{0}}, 3, 0, 16, 1, [][2]int{{0, 7}}},
		{api.Coat{Slant: 20, Gauge: 8, Reed: 18, Missing: []int{0, 2}}, 3, 0, 12, 1, [][2]int{{0, 7}}},
		{api.Coat{Slant: 20, Gauge: 8, Reed: 18, Missing: []int{1, 2}}, 3, 0, 18, 1, [][2]int{{18, 19}}},
		{api.Coat{Slant: 20, Gauge: 8, Reed: 18, Missing: []int{0, 1, 2}}, 3, 0, 0, 1, [][2]int{{0, 19}}},
		{api.Coat{Slant: 20, Gauge: 8, Reed: 5}, 3, 0, 14, 1, [][2]int{{5, 7}, {13, 15}}}, // with gaps
		{api.Coat{Slant: 20, Gauge: 8, Reed: 8}, 3, 1, 20, 2, [][2]int{{0, 19}}},
		{api.Coat{Slant: 16, Gauge: 8, Reed: 16}, 2, 1, 24, 2, [][2]int{{0, 7}}},
		{api.Coat{Slant: 17, Gauge: 8, Reed: 16}, 3, 1, 26, 2, [][2]int{{0, 7}}},
		{api.Coat{Slant: 1, Gauge: 100, Reed: 1}, 1, 1, 1, 2, [][2]int{{0, 0}}},
		{api.Coat{Slant: 1, Gauge: 1, Reed: 200}, 1, 1, 1, 1, nil},
		{api.Coat{Slant: 5000, Gauge: 1, Reed: 200}, 5000, 1, 980100, 200, [][2]int{{0, 198}}},
		{api.Coat{Slant: 5000, Gauge: 100, Reed: 200, Missing: []int{10}}, 50, 1, 9700, 2, [][2]int{{0, 99}, {1000, 1199}}},
	} {
		if n, e := thatch.Courses(c.c); n != c.courses || e != api.OK {
			t.Errorf("Courses(%v): %d, error %d", c.c, n, e)
		}
		if n, e := thatch.Least(c.c); n != c.least || e != api.OK {
			t.Errorf("Least(%v): %d, error %d", c.c, n, e)
		}
		if n, e := thatch.Reed(c.c); n != c.reed || e != api.OK {
			t.Errorf("Reed(%v): %d, error %d", c.c, n, e)
		}
		if l, e := thatch.Thin(c.c, c.layers); !slices.Equal(l, c.thin) || e != api.OK {
			t.Errorf("Thin(%v, %d): %v, error %d", c.c, c.layers, l, e)
		}
	}
	for inch, want := range []int{1, 1, 1, 1, 1, 1, 1, 1, 2, 2, 2, 2, 2, 2, 2, 2, 3, 3, 2, 2} {
		if n, e := thatch.Layers(api.Coat{Slant: 20, Gauge: 8, Reed: 18}, inch); n != want || e != api.OK {
			t.Errorf("Layers over %d: %d, error %d", inch, n, e)
		}
	}
}

// P8.1, R2: ErrCoat comes ahead of ErrArg, and with nothing else.
func TestCoatErrors(t *testing.T) {
	some := append([]int{0, 1, -1, 1001}, farNumbers...)
	for _, c := range badCoats() {
		if n, e := thatch.Courses(c); n != 0 || e != api.ErrCoat {
			t.Errorf("Courses(%v): %d, error %d", shown(c), n, e)
		}
		if n, e := thatch.Least(c); n != 0 || e != api.ErrCoat {
			t.Errorf("Least(%v): %d, error %d", shown(c), n, e)
		}
		if n, e := thatch.Reed(c); n != 0 || e != api.ErrCoat {
			t.Errorf("Reed(%v): %d, error %d", shown(c), n, e)
		}
		for _, m := range some {
			if n, e := thatch.Layers(c, m); n != 0 || e != api.ErrCoat {
				t.Errorf("Layers(%v, %d): %d, error %d", shown(c), m, n, e)
			}
			if l, e := thatch.Thin(c, m); len(l) != 0 || e != api.ErrCoat {
				t.Errorf("Thin(%v, %d): %v, error %d", shown(c), m, l, e)
			}
		}
	}
	for _, c := range limitCoats() {
		for _, m := range some[2:] {
			if l, e := thatch.Thin(c, m); len(l) != 0 || e != api.ErrArg {
				t.Errorf("Thin(%v, %d): %v, error %d", c, m, l, e)
			}
		}
	}
}

// R4: a list of missing courses is neither changed nor kept, nor read beyond its
// length; results are new memory.
func TestCoatsAreKept(t *testing.T) {
	backing := []int{1, 2, 0, 7}
	c := api.Coat{Slant: 40, Gauge: 8, Reed: 18, Missing: backing[:2]}
	same := api.Coat{Slant: 40, Gauge: 8, Reed: 18, Missing: []int{1, 2}}
	over := checkCoat(t, c)
	if !slices.Equal(over, checkCoat(t, same)) {
		t.Errorf("%v is laid as %v", c, over)
	}
	first, _ := thatch.Thin(c, 2)
	kept := slices.Clone(first)
	clear(first)
	if l, _ := thatch.Thin(c, 2); !slices.Equal(l, kept) || len(l) == 0 {
		t.Errorf("Thin(%v, 2): %v, want %v", c, l, kept)
	}
	if !slices.Equal(backing, []int{1, 2, 0, 7}) {
		t.Errorf("missing courses are changed: %v", backing)
	}
	backing[1] = 4
	checkCoat(t, c)
}
