package burn_test

import (
	"math/bits"
	"math/rand/v2"
	"slices"
	"testing"

	"sedge/api"
	"sedge/burn"
)

// P4.4: fields in which some squares are free, and all else is as it was.
func TestFree(t *testing.T) {
	r := rand.New(rand.NewPCG(4, 4))
	for _, b := range blazes() {
		for _, count := range []int{0, 1, 3, 100} {
			var squares []int
			want := slices.Clone(b.f.Fuel)
			for range count {
				at := r.IntN(len(want))
				squares = append(squares, at)
				want[at] = 0
			}
			g, e := burn.Free(b.f, squares)
			if e != api.OK || g.W != b.f.W || g.H != b.f.H || !slices.Equal(g.Fuel, want) {
				t.Errorf("Free(%v, %v): %v, error %d", b.f, squares, g, e)
			}
		}
	}
}

// P4.4: the errors and their order.
func TestFreeErrors(t *testing.T) {
	for name, f := range badFields() {
		for _, squares := range [][]int{nil, {0}, {-1}, make([]int, 101)} {
			if g, e := burn.Free(f, squares); !isZero(g) || e != api.ErrFire {
				t.Errorf("Free of %v, %s: %v, error %d", squares, name, g, e)
			}
		}
	}
	bad := [][]int{make([]int, 101), make([]int, 100000), {0, 1, 2, 3, -1}}
	for _, n := range append([]int{-1, 4, 5, 100}, farNumbers...) {
		bad = append(bad, []int{n}, []int{0, n}, []int{n, 1})
	}
	for _, squares := range bad {
		if g, e := burn.Free(even(2, 2, 1), squares); !isZero(g) || e != api.ErrArg {
			t.Errorf("Free(%v): %v, error %d", squares, g, e)
		}
	}
	// a field without any fuel is one, too
	if g, e := burn.Free(field(2, 0, 0), []int{1, 1}); e != api.OK || !slices.Equal(g.Fuel, []int{0, 0}) {
		t.Errorf("Free of a bare field: %v, error %d", g, e)
	}
}

// P4.8: Free makes no time less, and takes what is free out.
func TestFreeTakesLonger(t *testing.T) {
	r := rand.New(rand.NewPCG(4, 80))
	for _, b := range append(someBlazes(300, 5), someBlazes(40, 10)...) {
		var squares []int
		for range r.IntN(6) {
			if at := r.IntN(len(b.f.Fuel)); !b.starting(at) {
				squares = append(squares, at)
			}
		}
		g, e := burn.Free(b.f, squares)
		l := times(t, blaze{g, b.w, b.starts})
		if was := times(t, b); e != api.OK || !atLeast(l, was) {
			t.Errorf("Times of %v: %v; without %v: %v", b, was, squares, l)
		}
		for _, at := range squares {
			if l[at] != -1 || g.Fuel[at] != 0 {
				t.Errorf("Times of %v without %v: %v", b, squares, l)
			}
		}
	}
}

// P4.5, P4.9: every set of squares of small fields.
func TestIsBreak(t *testing.T) {
	for i, b := range smallBlazes() {
		if len(b.f.Fuel) > 6 && i%7 > 0 {
			continue
		}
		for _, hide := range b.hides() {
			least := -1
			for set := range 1 << len(b.f.Fuel) {
				l := members(set, len(b.f.Fuel))
				want := b.isBreak(hide, l)
				if is, e := burn.IsBreak(b.f, b.w, b.starts, hide, l); is != want || e != api.OK {
					t.Errorf("IsBreak(%v, %d, %v): %v, error %d", b, hide, l, is, e)
				}
				if n := bits.OnesCount(uint(set)); want && (least == -1 || n < least) {
					least = n
				}
			}
			checkBreak(t, b, hide, least)
		}
	}
}

// P4.5, P4.6, P4.9: a break, by how many squares the fewest are on larger
// fields, too, where as many courses apart show that no break has fewer.
func TestBreak(t *testing.T) {
	all := append(blazes(), someBlazes(300, 7)...)
	for _, b := range append(all, someBlazes(40, 10)...) {
		for _, hide := range b.hides() {
			if !b.beside(hide) {
				checkBreak(t, b, hide, len(apart(t, b, hide)))
			}
		}
	}
}

// checkBreak looks whether a break has as many squares as are wanted, and as
// there are courses apart; -1 is wanted where there is none.
func checkBreak(t *testing.T, b blaze, hide, want int) {
	t.Helper()
	l, e := burn.Break(b.f, b.w, b.starts, hide)
	courses, g := burn.Apart(b.f, b.w, b.starts, hide)
	if b.beside(hide) {
		if want != -1 || len(l) != 0 || e != api.ErrNone || len(courses) != 0 || g != api.ErrNone {
			t.Errorf("Break(%v, %d): %v, error %d; Apart: %v, error %d; %d are wanted", b, hide, l, e, courses, g, want)
		}
		return
	}
	if len(l) != want || !b.isBreak(hide, l) || e != api.OK {
		t.Errorf("Break(%v, %d): %v, error %d, want %d", b, hide, l, e, want)
	}
	if len(courses) != want || !b.areApart(hide, courses) || g != api.OK {
		t.Errorf("Apart(%v, %d): %v, error %d, want %d", b, hide, courses, g, want)
	}
	if is, e := burn.IsBreak(b.f, b.w, b.starts, hide, l); !is || e != api.OK {
		t.Errorf("IsBreak(%v, %d, %v): %v, error %d", b, hide, l, is, e)
	}
	if is, e := burn.AreApart(b.f, b.w, b.starts, hide, courses); !is || e != api.OK {
		t.Errorf("AreApart(%v, %d, %v): %v, error %d", b, hide, courses, is, e)
	}
}

// P4.5, P4.6: the chapter's second example, and others that are found by hand.
func TestBreakExamples(t *testing.T) {
	calm := api.Wind{}
	for _, c := range []struct {
		b          blaze
		hide, want int
	}{
		{blaze{even(3, 3, 1), calm, []int{0}}, 8, 2},
		{blaze{even(3, 3, 1), calm, []int{0}}, 4, 2},
		{blaze{even(3, 3, 1), calm, []int{0}}, 1, -1},
		{blaze{even(3, 3, 1), calm, []int{0}}, 3, -1},
		{blaze{even(10, 10, 100), wind(100, 100, 100, 100), []int{0}}, 99, 2},
		{blaze{even(10, 10, 1), calm, []int{55}}, 22, 4},
		{blaze{even(10, 10, 1), calm, []int{0, 9, 90, 99}}, 55, 4},
		{blaze{even(5, 5, 1), calm, []int{0, 1, 2, 3, 4}}, 22, 3},
		{blaze{field(3, 1, 0, 1), calm, []int{0}}, 2, 0},
		{blaze{field(3, 1, 1, 1), calm, []int{0}}, 2, 1},
		{blaze{field(2, 1, 0, 0, 1), calm, []int{0}}, 3, 0},
		{blaze{winding(1), calm, []int{0}}, 89, 1},
		{blaze{even(5, 1, 1), calm, []int{0, 4}}, 2, 2},
		{blaze{even(4, 1, 1), calm, []int{0, 1}}, 3, 1},                                               // behind a start
		{blaze{field(4, 0, 1, 1, 1, 1, 1, 1, 1, 1, 1, 1, 0), calm, []int{4}}, 7, 2},                   // the shortest course goes through the middle
		{blaze{field(5, 1, 1, 1, 1, 1, 1, 1, 0, 1, 1, 1, 1, 1, 1, 1), calm, []int{5}}, 9, 2},          // round a bare square
		{blaze{field(5, 1, 1, 0, 1, 1, 1, 1, 1, 1, 1, 1, 1, 0, 1, 1), calm, []int{5}}, 9, 1},          // through a gap
		{blaze{field(5, 1, 1, 1, 1, 1, 1, 0, 1, 0, 1, 1, 1, 1, 1, 1), calm, []int{0, 10}}, 7, 2},      // two starts
		{blaze{field(4, 1, 1, 1, 1, 0, 1, 1, 0, 0, 1, 1, 0, 1, 1, 1, 1), calm, []int{0, 3}}, 15, 1},   // into a dead end
		{blaze{field(4, 1, 1, 1, 1, 0, 1, 1, 0, 0, 1, 1, 1, 1, 1, 1, 1), calm, []int{0, 3}}, 15, 2},   // and out of it
		{blaze{field(5, 0, 0, 1, 0, 0, 0, 1, 1, 1, 0, 1, 1, 1, 1, 1), calm, []int{2, 10, 14}}, 12, 3}, // a star
	} {
		checkBreak(t, c.b, c.hide, c.want)
	}
}

// P4.5: lists that are no breaks, and breaks with more squares.
func TestIsBreakExamples(t *testing.T) {
	b := blaze{field(3, 1, 1, 1, 1, 1, 1, 1, 0, 1), api.Wind{}, []int{0}}
	for _, c := range []struct {
		l    []int
		want bool
	}{
		{[]int{5}, true},
		{[]int{1, 3}, true},
		{[]int{1, 3, 5}, true},
		{[]int{1, 2, 3, 4, 5, 6}, true},
		{[]int{2, 4}, true},
		{nil, false},
		{[]int{}, false},
		{[]int{1}, false},
		{[]int{3, 1}, false},    // not ascending
		{[]int{1, 1, 3}, false}, // not strictly
		{[]int{5, 5}, false},
		{[]int{0, 5}, false}, // a start
		{[]int{5, 8}, false}, // the hide
		{[]int{8}, false},
		{[]int{5, 7}, false}, // a bare square
		{[]int{-1, 5}, false},
		{[]int{5, 9}, false},
		{[]int{1, 3, 1 << 40}, false},
		{[]int{-1 << 63, 5, 1<<63 - 1}, false},
		{slices.Repeat([]int{5}, 100000), false},
	} {
		if is, e := burn.IsBreak(b.f, b.w, b.starts, 8, c.l); is != c.want || e != api.OK {
			t.Errorf("IsBreak(%v): %v, error %d", c.l[:min(len(c.l), 9)], is, e)
		}
	}
	apartAlready := blaze{field(3, 1, 0, 1), api.Wind{}, []int{0}}
	if is, e := burn.IsBreak(apartAlready.f, apartAlready.w, apartAlready.starts, 2, nil); !is || e != api.OK {
		t.Errorf("IsBreak of nothing: %v, error %d", is, e)
	}
	// beside a start there is none, and that is no error here
	if is, e := burn.IsBreak(b.f, b.w, b.starts, 1, []int{2, 3, 4, 5, 6, 8}); is || e != api.OK {
		t.Errorf("IsBreak beside a start: %v, error %d", is, e)
	}
}

// P4.9: a break stays one with more squares.
func TestBreakWithMore(t *testing.T) {
	r := rand.New(rand.NewPCG(4, 9))
	for _, b := range append(someBlazes(200, 6), someBlazes(30, 10)...) {
		for _, hide := range b.hides() {
			if b.beside(hide) {
				continue
			}
			l := fewest(t, b, hide)
			for _, at := range b.hides() {
				if at != hide && r.IntN(4) == 0 {
					l = append(l, at)
				}
			}
			slices.Sort(l)
			l = slices.Compact(l)
			if is, e := burn.IsBreak(b.f, b.w, b.starts, hide, l); !is || e != api.OK {
				t.Errorf("IsBreak(%v, %d, %v): %v, error %d", b, hide, l, is, e)
			}
		}
	}
}

// P4.6: no, one or two of all courses of small fields, and lists that are none.
func TestAreApart(t *testing.T) {
	for i, b := range smallBlazes() {
		if i%5 > 0 {
			continue
		}
		for _, hide := range b.hides() {
			check := func(l ...[]int) {
				t.Helper()
				want := b.areApart(hide, l)
				if is, e := burn.AreApart(b.f, b.w, b.starts, hide, l); is != want || e != api.OK {
					t.Errorf("AreApart(%v, %d, %v): %v, error %d", b, hide, l, is, e)
				}
			}
			check()
			courses := b.to(hide)
			for _, c := range courses {
				check(c)
				check(c[1:])
				check(c[:len(c)-1])
				check(c, nil)
				for _, d := range courses {
					check(c, d)
				}
			}
		}
	}
}

// P4.6: what stands in a list of courses, and how many of them there are.
func TestAreApartExamples(t *testing.T) {
	b := blaze{even(3, 3, 1), api.Wind{}, []int{0, 2}}
	direct := []int{2, 5}
	for name, c := range map[string]struct {
		hide int
		l    [][]int
		want bool
	}{
		"none":                 {8, nil, true},
		"empty":                {8, [][]int{}, true},
		"one":                  {8, [][]int{{2, 5, 8}}, true},
		"two":                  {8, [][]int{{2, 5, 8}, {0, 3, 6, 7, 8}}, true},
		"from one start":       {8, [][]int{{0, 1, 4, 5, 8}, {0, 3, 6, 7, 8}}, true},
		"a square in common":   {8, [][]int{{0, 1, 4, 5, 8}, {0, 3, 4, 7, 8}}, false},
		"the last in common":   {8, [][]int{{2, 5, 8}, {0, 1, 4, 5, 8}}, false},
		"the first in common":  {8, [][]int{{2, 1, 4, 7, 8}, {0, 1, 4, 5, 8}}, false},
		"the third has one":    {7, [][]int{{0, 1, 4, 7}, {0, 3, 6, 7}, {2, 5, 4, 7}}, false},
		"three":                {7, [][]int{{0, 1, 4, 7}, {0, 3, 6, 7}, {2, 5, 8, 7}}, true},
		"twice":                {8, [][]int{{2, 5, 8}, {2, 5, 8}}, false},
		"an empty one":         {8, [][]int{{}}, false},
		"an empty one behind":  {8, [][]int{{2, 5, 8}, nil}, false},
		"not to the hide":      {8, [][]int{{2, 5}}, false},
		"past the hide":        {5, [][]int{{2, 5, 8}}, false},
		"from no start":        {8, [][]int{{4, 5, 8}}, false},
		"no course":            {8, [][]int{{2, 5, 7, 8}}, false},
		"over a second start":  {8, [][]int{{0, 1, 2, 5, 8}}, false},
		"a start alone":        {8, [][]int{{2}}, false},
		"the hide alone":       {8, [][]int{{8}}, false},
		"out of the field":     {8, [][]int{{2, 5, 8, 11}}, false},
		"beside the hide":      {5, [][]int{direct}, true},
		"and another one":      {5, [][]int{direct, {0, 1, 4, 5}}, true},
		"beside it, 100 times": {5, slices.Repeat([][]int{direct}, 100), true}, // nothing but a start and the hide in common
		"beside it, 101 times": {5, slices.Repeat([][]int{direct}, 101), false},
		"very many":            {5, slices.Repeat([][]int{direct}, 100000), false},
	} {
		if is, e := burn.AreApart(b.f, b.w, b.starts, c.hide, c.l); is != c.want || e != api.OK {
			t.Errorf("AreApart, %s: %v, error %d", name, is, e)
		}
	}
}

// P4.5, P4.6: hides that are none, ahead of what else is wrong.
func TestHideErrors(t *testing.T) {
	f := field(3, 1, 1, 1, 0, 1, 1)
	starts := []int{4, 0}
	for _, hide := range append([]int{-1, 6, 7, 3, 0, 4}, farNumbers...) {
		for _, l := range [][]int{nil, {1}, {1, 2, 5}, {-1}, {2, 1}} {
			if is, e := burn.IsBreak(f, api.Wind{}, starts, hide, l); is || e != api.ErrArg {
				t.Errorf("IsBreak(%d, %v): %v, error %d", hide, l, is, e)
			}
		}
		if l, e := burn.Break(f, api.Wind{}, starts, hide); len(l) != 0 || e != api.ErrArg {
			t.Errorf("Break(%d): %v, error %d", hide, l, e)
		}
		if l, e := burn.Apart(f, api.Wind{}, starts, hide); len(l) != 0 || e != api.ErrArg {
			t.Errorf("Apart(%d): %v, error %d", hide, l, e)
		}
		for _, l := range [][][]int{nil, {{0, 1}}, make([][]int, 101)} {
			if is, e := burn.AreApart(f, api.Wind{}, starts, hide, l); is || e != api.ErrArg {
				t.Errorf("AreApart(%d, %v): %v, error %d", hide, l, is, e)
			}
		}
	}
}
