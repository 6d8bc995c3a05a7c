package rod_test

import (
	"math/rand/v2"
	"slices"
	"testing"

	"sedge/api"
	"sedge/rod"
)

// onOneLine reports whether a list has no three posts that make a triangle.
func onOneLine(l []api.XY) bool {
	for i := range l {
		for k := range i {
			for m := range k {
				if twiceArea([]api.XY{l[i], l[k], l[m]}) != 0 {
					return false
				}
			}
		}
	}
	return true
}

// hullOf finds the hull side by side: from a corner on, the next one is the
// farthest post with no post of the list on the right.
func hullOf(l []api.XY) []api.XY {
	first := l[0]
	for _, a := range l {
		if a.X < first.X || a.X == first.X && a.Y < first.Y {
			first = a
		}
	}
	hull := []api.XY{first}
	for {
		at := hull[len(hull)-1]
		var next api.XY
		found := false
		for _, b := range l {
			if b == at {
				continue
			}
			good := true
			for _, c := range l {
				side := twiceArea([]api.XY{at, b, c})
				farther := (c.X-at.X)*(c.X-at.X)+(c.Y-at.Y)*(c.Y-at.Y) > (b.X-at.X)*(b.X-at.X)+(b.Y-at.Y)*(b.Y-at.Y)
				good = good && (side > 0 || side == 0 && !farther)
			}
			if good {
				next, found = b, true
			}
		}
		if !found || next == first {
			return hull
		}
		hull = append(hull, next)
	}
}

func checkHull(t *testing.T, l []api.XY) {
	t.Helper()
	h, e := rod.Hull(l)
	if len(l) < 3 || onOneLine(l) {
		if len(h) != 0 || e != api.ErrNone {
			t.Errorf("Hull(%v): %v, error %d", l, h, e)
		}
		return
	}
	if want := hullOf(l); e != api.OK || !slices.Equal(h, want) {
		t.Errorf("Hull(%v): %v, error %d, want %v", l, h, e, want)
		return
	}
	if is, e := rod.Convex(h); !is || e != api.OK {
		t.Errorf("Hull(%v): %v is not convex, error %d", l, h, e)
	}
	if is, e := rod.Left(h); !is || e != api.OK {
		t.Errorf("Hull(%v): %v is not on the left, error %d", l, h, e)
	}
	for _, a := range l {
		if n, e := rod.Where(h, a); n < 0 || e != api.OK {
			t.Errorf("Hull(%v): %v has %v outside, error %d", l, h, a, e)
		}
	}
	for _, a := range h {
		if !slices.Contains(l, a) {
			t.Errorf("Hull(%v): %v is not of the list", l, a)
		}
	}
	if again, e := rod.Hull(h); e != api.OK || !slices.Equal(again, h) {
		t.Errorf("Hull(%v): %v, error %d", h, again, e)
	}
}

// P1.7, P1.12: all short lists of a small square, and longer ones.
func TestHull(t *testing.T) {
	for n := range 5 {
		lists(n, 3, func(l []api.XY) { checkHull(t, l) })
	}
	lists(3, 4, func(l []api.XY) { checkHull(t, l) })
	r := rand.New(rand.NewPCG(7, 7))
	for _, reach := range []int{1, 2, 3, 5, 20, 1000} {
		for range 150 {
			l := make([]api.XY, r.IntN(41))
			for i := range l {
				l[i] = api.XY{X: r.IntN(2*reach+1) - reach, Y: r.IntN(2*reach+1) - reach}
			}
			checkHull(t, l)
		}
	}
}

// P1.7: where the hull begins, straight corners and repetitions.
func TestHullExamples(t *testing.T) {
	for _, c := range [][2][]api.XY{
		{posts(1, 1, 0, 0, 2, 0, 0, 2, 2, 2, 1, 0, 0, 0), posts(0, 0, 2, 0, 2, 2, 0, 2)},
		{posts(0, 2, 0, 0, 0, 1, 3, 1), posts(0, 0, 3, 1, 0, 2)},
		{posts(5, 5, -5, 5, 5, -5, -5, -5), posts(-5, -5, 5, -5, 5, 5, -5, 5)},
		{posts(4, 0, 3, 3, 0, 4), posts(0, 4, 4, 0, 3, 3)},
		{posts(0, 0, 0, 0, 1, 0, 1, 0, 0, 1, 0, 1), posts(0, 0, 1, 0, 0, 1)},
		{posts(1000, 1000, -1000, 1000, 1000, -1000, -1000, -1000, 0, 1000), posts(-1000, -1000, 1000, -1000, 1000, 1000, -1000, 1000)},
	} {
		if h, e := rod.Hull(c[0]); e != api.OK || !slices.Equal(h, c[1]) {
			t.Errorf("Hull(%v): %v, error %d", c[0], h, e)
		}
	}
}

// P1.7: errors in their order, at the limits.
func TestHullErrors(t *testing.T) {
	same := make([]api.XY, 41)
	around := slices.Concat(slices.Repeat(posts(0, 0), 38), posts(1, 0, 0, 1))
	if h, e := rod.Hull(around); e != api.OK || !slices.Equal(h, posts(0, 0, 1, 0, 0, 1)) {
		t.Errorf("Hull of 40 posts: %v, error %d", h, e)
	}
	args := [][]api.XY{same, append(around, api.XY{}), posts(0, 0, 1001, 0, 0, 1), posts(0, 0, -1001, 0, 0, 1), posts(0, 0, 1, 0, 0, 1001), posts(0, 0, 1, 0, 0, -1001), posts(1001, 0), posts(0, 1001, 0, 0), posts(0, 0, 1001, 1001, 2, 2)}
	for _, far := range farNumbers {
		args = append(args, posts(0, 0, far, 0, 0, 1), posts(0, 0, 1, 0, 0, far), posts(far, far), posts(far, 0, 0, far, far, far))
	}
	for _, l := range args {
		if h, e := rod.Hull(l); len(h) != 0 || e != api.ErrArg {
			t.Errorf("Hull(%v): %v, error %d", l, h, e)
		}
	}
	for _, l := range [][]api.XY{nil, {}, posts(1, 2), posts(1, 2, 3, 5), same[:40], posts(0, 0, 1, 1, 5, 5, 3, 3), posts(0, 0, 0, 5, 0, 2), posts(3, 0, -5, 0, 2, 0), posts(1, 1, 1, 1, 2, 2), posts(2, 0, 1, 1, 0, 2), posts(-1000, 0, 0, 0, 1000, 0)} {
		if h, e := rod.Hull(l); len(h) != 0 || e != api.ErrNone {
			t.Errorf("Hull(%v): %v, error %d", l, h, e)
		}
	}
}

// P1.12: the hull of a convex parcel's corners has its area, and that of any other one more.
func TestHullOfParcels(t *testing.T) {
	for _, p := range parcels() {
		checkHull(t, p)
		h, e := rod.Hull(p)
		if e != api.OK {
			t.Fatalf("Hull(%v): error %d", p, e)
		}
		convex, _ := rod.Convex(p)
		if (mustArea(t, h) == mustArea(t, p)) != convex {
			t.Errorf("Hull(%v) has the area %d of %d, convex %v", p, mustArea(t, h), mustArea(t, p), convex)
		}
	}
}

// R4.
func TestHullKeepsItsList(t *testing.T) {
	for _, l := range append(grown(50, 6), posts(2, 2, 1, 1, 0, 5, 0, 0), posts(0, 0, 3, 0, 0, 3), posts(3, 3, 2, 2, 1, 1), posts(2, 1)) {
		unchanged(t, "Hull", l, func(l []api.XY) {
			h, _ := rod.Hull(l)
			spoil(h)
		})
	}
}
