package rod_test

import (
	"math"
	"slices"
	"testing"

	"sedge/api"
	"sedge/rod"
)

// twice returns posts with doubled coordinates, between which every middle is a post.
func twice(p []api.XY) []api.XY {
	var out []api.XY
	for _, a := range p {
		out = append(out, api.XY{X: 2 * a.X, Y: 2 * a.Y})
	}
	return out
}

// cuts reports whether the line between the corners i and k meets the border
// in its ends alone and lies inside between them.
func cuts(p []api.XY, i, k int) bool {
	n := len(p)
	for s := range n {
		e := (s + 1) % n
		most := 0
		if s == i || s == k || e == i || e == k {
			most = 1
		}
		if shared(p[i], p[k], p[s], p[e]) > most {
			return false
		}
	}
	big := twice(p)
	return where(big, api.XY{X: p[i].X + p[k].X, Y: p[i].Y + p[k].Y}) == 1
}

// P1.8, P1.13: all cuts of many parcels.
func TestCut(t *testing.T) {
	good, bad := 0, 0
	for _, p := range parcels() {
		n := len(p)
		for i := -1; i <= n; i++ {
			for k := -1; k <= n; k++ {
				a, b, e := rod.Cut(p, i, k)
				want := api.OK
				switch {
				case i < 0 || k < 0 || i >= n || k >= n || i >= k || k-i == 1 || i == 0 && k == n-1:
					want = api.ErrArg
				case !cuts(p, i, k):
					want = api.ErrNone
					bad++
				}
				if e != want || want != api.OK && (len(a) != 0 || len(b) != 0) {
					t.Fatalf("Cut(%v, %d, %d): %v, %v, error %d, want %d", p, i, k, a, b, e, want)
				}
				if want == api.OK {
					good++
					checkParts(t, p, i, k, a, b)
				}
			}
		}
	}
	if good < 1000 || bad < 1000 {
		t.Errorf("only %d cuts, and %d that are none", good, bad)
	}
}

// checkParts checks the corners, areas and posts of both parts.
func checkParts(t *testing.T, p []api.XY, i, k int, a, b []api.XY) {
	t.Helper()
	var first, second []api.XY
	for s := i; s <= k; s++ {
		first = append(first, p[s])
	}
	for s := k; s <= len(p)+i; s++ {
		second = append(second, p[s%len(p)])
	}
	if !slices.Equal(a, first) || !slices.Equal(b, second) {
		t.Fatalf("Cut(%v, %d, %d): %v, %v", p, i, k, a, b)
	}
	if mustArea(t, a)+mustArea(t, b) != mustArea(t, p) {
		t.Errorf("Cut(%v, %d, %d): areas %d, %d", p, i, k, mustArea(t, a), mustArea(t, b))
	}
	if mustInside(t, a)+mustInside(t, b)+between(p[i], p[k]) != mustInside(t, p) {
		t.Errorf("Cut(%v, %d, %d): inside %d, %d, on the cut %d", p, i, k, mustInside(t, a), mustInside(t, b), between(p[i], p[k]))
	}
}

// between counts the posts between two ones on their line, without them.
func between(a, b api.XY) int {
	low, high := box([]api.XY{a, b})
	count := -2
	for x := low.X; x <= high.X; x++ {
		for y := low.Y; y <= high.Y; y++ {
			if twiceArea([]api.XY{a, b, {X: x, Y: y}}) == 0 {
				count++
			}
		}
	}
	return count
}

// P1.8: cuts outside, along the border, and through another corner.
func TestCutExamples(t *testing.T) {
	p := posts(0, 0, 4, 0, 4, 4, 2, 1, 0, 4)
	a, b, e := rod.Cut(p, 0, 3)
	if e != api.OK || !slices.Equal(a, posts(0, 0, 4, 0, 4, 4, 2, 1)) || !slices.Equal(b, posts(2, 1, 0, 4, 0, 0)) {
		t.Errorf("Cut: %v, %v, error %d", a, b, e)
	}
	a, b, e = rod.Cut(posts(0, 0, 2, 0, 2, 2, 0, 2), 1, 3)
	if e != api.OK || !slices.Equal(a, posts(2, 0, 2, 2, 0, 2)) || !slices.Equal(b, posts(0, 2, 0, 0, 2, 0)) {
		t.Errorf("Cut of a square: %v, %v, error %d", a, b, e)
	}
	for _, c := range []struct {
		name string
		p    []api.XY
		i, k int
	}{
		{"outside", p, 2, 4},
		{"along the border", posts(0, 0, 1, 0, 2, 0, 2, 2, 0, 2), 0, 2},
		{"along the border, round about", posts(0, 0, 2, 0, 2, 2, 0, 2, 0, 1), 0, 3},
		{"through a corner", posts(0, 0, 4, 0, 2, 2, 4, 4, 0, 4), 0, 3},
		{"through a corner, round about", posts(4, 4, 0, 4, 0, 0, 4, 0, 2, 2), 0, 2},
		{"across sides", posts(0, 0, 6, 0, 6, 4, 5, 4, 3, 1, 1, 4, 0, 4), 2, 6},
	} {
		if a, b, e := rod.Cut(c.p, c.i, c.k); len(a) != 0 || len(b) != 0 || e != api.ErrNone {
			t.Errorf("Cut %s: %v, %v, error %d", c.name, a, b, e)
		}
	}
}

// P1.8: indexes that are none, also far away.
func TestCutErrors(t *testing.T) {
	p := posts(0, 0, 4, 0, 4, 4, 2, 1, 0, 4)
	far := append([]int{-1, 5, 6, -2}, farNumbers...)
	for _, n := range far {
		for i := range 5 {
			for _, c := range [][2]int{{n, i}, {i, n}, {n, n}, {n, math.MaxInt}, {math.MinInt, n}} {
				if a, b, e := rod.Cut(p, c[0], c[1]); len(a) != 0 || len(b) != 0 || e != api.ErrArg {
					t.Errorf("Cut(%d, %d): %v, %v, error %d", c[0], c[1], a, b, e)
				}
			}
		}
	}
	triangle := posts(0, 0, 4, 0, 4, 3)
	for i := range 3 {
		for k := range 3 {
			if _, _, e := rod.Cut(triangle, i, k); e != api.ErrArg {
				t.Errorf("Cut of a triangle(%d, %d): error %d", i, k, e)
			}
		}
	}
}

// R4: the parts of a cut are new memory, each its own.
func TestCutKeepsItsParcel(t *testing.T) {
	for _, p := range append(grown(50, 6), posts(0, 0, 2, 0, 2, 2, 0, 2)) {
		for k := range p {
			for i := range k {
				unchanged(t, "Cut", p, func(l []api.XY) {
					a, b, _ := rod.Cut(l, i, k)
					kept := slices.Clone(b)
					spoil(a)
					if !slices.Equal(b, kept) {
						t.Errorf("Cut(%v, %d, %d): the parts share memory", p, i, k)
					}
					spoil(b)
				})
			}
		}
	}
}

// P1.8.
func TestMove(t *testing.T) {
	p := posts(0, 0, 1, 0, 0, 1)
	for _, by := range []api.XY{{}, {X: 999, Y: -5}, {X: 999, Y: 999}, {X: -1000, Y: -1000}, {X: 17}, {Y: -17}} {
		want := posts(by.X, by.Y, 1+by.X, by.Y, by.X, 1+by.Y)
		if l, e := rod.Move(p, by); e != api.OK || !slices.Equal(l, want) {
			t.Errorf("Move by %v: %v, error %d", by, l, e)
		}
	}
	small := posts(-1000, -1000, -999, -1000, -1000, -999)
	if l, e := rod.Move(small, api.XY{X: 1999, Y: 1999}); e != api.OK || !slices.Equal(l, posts(999, 999, 1000, 999, 999, 1000)) {
		t.Errorf("Move across the range: %v, error %d", l, e)
	}
	back := posts(1000, 1000, 999, 1000, 1000, 999)
	if l, e := rod.Move(back, api.XY{X: -1999, Y: -1999}); e != api.OK || !slices.Equal(l, posts(-999, -999, -1000, -999, -999, -1000)) {
		t.Errorf("Move back across the range: %v, error %d", l, e)
	}
}

// P1.8: corners that would be out of range.
func TestMoveErrors(t *testing.T) {
	for _, c := range []struct {
		p  []api.XY
		by api.XY
	}{
		{posts(0, 0, 1, 0, 0, 1), api.XY{X: 1000}},
		{posts(0, 0, 1, 0, 0, 1), api.XY{Y: 1000}},
		{posts(0, 0, 1, 0, 0, 1), api.XY{X: -1001}},
		{posts(0, 0, 1, 0, 0, 1), api.XY{Y: -1001}},
		{posts(-1000, -1000, -999, -1000, -1000, -999), api.XY{X: 2000}},
		{posts(-1000, -1000, -999, -1000, -1000, -999), api.XY{X: 2001}},
		{posts(1000, 1000, 999, 1000, 1000, 999), api.XY{Y: -2000}},
		{posts(1000, 1000, 999, 1000, 1000, 999), api.XY{Y: -2001}},
	} {
		if l, e := rod.Move(c.p, c.by); len(l) != 0 || e != api.ErrArg {
			t.Errorf("Move(%v, %v): %v, error %d", c.p, c.by, l, e)
		}
	}
	for _, far := range farNumbers {
		for _, p := range [][]api.XY{posts(0, 0, 1, 0, 0, 1), posts(-1000, -1000, 1000, -1000, 0, 1000), posts(-5, -5, -6, -5, -6, -7)} {
			for _, by := range []api.XY{{X: far}, {Y: far}, {X: far, Y: far}, {X: far, Y: 1}} {
				if l, e := rod.Move(p, by); len(l) != 0 || e != api.ErrArg {
					t.Errorf("Move(%v, %v): %v, error %d", p, by, l, e)
				}
			}
		}
	}
}
