package rod_test

import (
	"slices"
	"testing"

	"sedge/api"
	"sedge/rod"
)

// P1.1: a parcel that is not valid comes before every other error, and there
// is no other result.
func TestParcelErrors(t *testing.T) {
	for name, p := range badParcels() {
		if rod.Valid(p) {
			t.Errorf("Valid: %s", name)
		}
		for what, f := range map[string]func([]api.XY) (int, api.Errno){"Area": rod.Area, "Border": rod.Border, "Inside": rod.Inside} {
			if n, e := f(p); n != 0 || e != api.ErrParcel {
				t.Errorf("%s: %s: %d, error %d", what, name, n, e)
			}
		}
		for _, at := range []api.XY{{}, {X: 1}, {X: 2000, Y: 2000}} {
			if n, e := rod.Where(p, at); n != 0 || e != api.ErrParcel {
				t.Errorf("Where: %s: %d, error %d", name, n, e)
			}
			if l, e := rod.Move(p, at); len(l) != 0 || e != api.ErrParcel {
				t.Errorf("Move: %s: %v, error %d", name, l, e)
			}
		}
		for what, f := range map[string]func([]api.XY) (bool, api.Errno){"Left": rod.Left, "Convex": rod.Convex} {
			if is, e := f(p); is || e != api.ErrParcel {
				t.Errorf("%s: %s: %v, error %d", what, name, is, e)
			}
		}
		if l, e := rod.Straight(p); len(l) != 0 || e != api.ErrParcel {
			t.Errorf("Straight: %s: %v, error %d", name, l, e)
		}
		for _, c := range [][2]int{{0, 2}, {1, 3}, {0, 1}, {2, 1}, {-1, 100}} {
			if a, b, e := rod.Cut(p, c[0], c[1]); len(a) != 0 || len(b) != 0 || e != api.ErrParcel {
				t.Errorf("Cut: %s: %v, %v, error %d", name, a, b, e)
			}
		}
	}
}

// P1.4: every list of up to five posts of a small square.
func TestValid(t *testing.T) {
	for _, c := range [][2]int{{1, 3}, {2, 3}, {3, 4}, {4, 3}, {5, 3}} {
		lists(c[0], c[1], func(l []api.XY) {
			if got, want := rod.Valid(l), isParcel(l); got != want {
				t.Errorf("Valid(%v): %v", l, got)
			}
		})
	}
	for _, p := range grown(100, 8) {
		for i := range p { // one corner elsewhere: valid or not
			for dx := -3; dx <= 3; dx++ {
				for dy := -3; dy <= 3; dy++ {
					q := slices.Clone(p)
					q[i].X += dx
					q[i].Y += dy
					if got, want := rod.Valid(q), isParcel(q); got != want {
						t.Errorf("Valid(%v): %v", q, got)
					}
				}
			}
		}
	}
}

// P1.4: the limits of a parcel.
func TestValidLimits(t *testing.T) {
	corners := posts(-1000, -1000, 1000, -1000, 1000, 1000, -1000, 1000)
	if !rod.Valid(corners) {
		t.Errorf("Valid(%v): false", corners)
	}
	if n, e := rod.Area(corners); n != 8000000 || e != api.OK {
		t.Errorf("Area of the greatest parcel: %d, error %d", n, e)
	}
	if n, e := rod.Border(corners); n != 8000 || e != api.OK {
		t.Errorf("Border of the greatest parcel: %d, error %d", n, e)
	}
	if n, e := rod.Inside(corners); n != 1999*1999 || e != api.OK {
		t.Errorf("Inside of the greatest parcel: %d, error %d", n, e)
	}
	for i := range corners {
		for _, far := range append([]int{-1001, 1001}, farNumbers...) {
			p := slices.Clone(corners)
			p[i].X = far
			if rod.Valid(p) {
				t.Errorf("Valid(%v)", p)
			}
			p[i] = api.XY{X: corners[i].X, Y: far}
			if rod.Valid(p) {
				t.Errorf("Valid(%v)", p)
			}
		}
	}
	for n := 3; n <= 45; n++ {
		if rod.Valid(bow(n)) != (n <= 40) {
			t.Errorf("Valid of %d corners: %v", n, rod.Valid(bow(n)))
		}
	}
	for n := 41; n <= 45; n++ {
		if _, e := rod.Area(bow(n)); e != api.ErrParcel {
			t.Errorf("Area of %d corners: error %d", n, e)
		}
	}
	line := posts(0, 1)
	for i := range 40 {
		line = append(line, api.XY{X: i, Y: 0})
	}
	if rod.Valid(line) || !rod.Valid(line[:40]) {
		t.Errorf("40 and 41 posts with straight corners: %v, %v", rod.Valid(line[:40]), rod.Valid(line))
	}
}

// P1.4, P1.5: what is told of the chapter's and some other parcels.
func TestExamples(t *testing.T) {
	for _, c := range []struct {
		p                    []api.XY
		area, border, inside int
		left, convex         bool
	}{
		{posts(0, 0, 4, 0, 4, 3), 12, 8, 3, true, true},
		{posts(0, 0, 1, 0, 0, 1), 1, 3, 0, true, true},
		{posts(0, 0, 0, 1, 1, 0), 1, 3, 0, false, true},
		{posts(0, 0, 0, 2, 2, 2, 2, 0), 8, 8, 1, false, true},
		{posts(0, 0, 1, 0, 2, 0, 2, 2, 0, 2), 8, 8, 1, true, true},
		{posts(0, 0, 4, 0, 4, 4, 2, 1, 0, 4), 20, 14, 4, true, false},
		{posts(0, 4, 2, 1, 4, 4, 4, 0, 0, 0), 20, 14, 4, false, false},
		{posts(-3, -3, 3, -3, 0, 4), 42, 8, 18, true, true},
	} {
		if n := mustArea(t, c.p); n != c.area {
			t.Errorf("Area(%v): %d", c.p, n)
		}
		if n := mustBorder(t, c.p); n != c.border {
			t.Errorf("Border(%v): %d", c.p, n)
		}
		if n := mustInside(t, c.p); n != c.inside {
			t.Errorf("Inside(%v): %d", c.p, n)
		}
		if is, e := rod.Left(c.p); is != c.left || e != api.OK {
			t.Errorf("Left(%v): %v, error %d", c.p, is, e)
		}
		if is, e := rod.Convex(c.p); is != c.convex || e != api.OK {
			t.Errorf("Convex(%v): %v, error %d", c.p, is, e)
		}
	}
}

// P1.4, P1.5, P1.10: Area, Border, Inside, Where and Left agree with what is
// counted post by post.
func TestPosts(t *testing.T) {
	for _, p := range parcels() {
		area, border, inside := mustArea(t, p), mustBorder(t, p), mustInside(t, p)
		low, high := box(p)
		on, in := 0, 0
		for y := low.Y - 2; y <= high.Y+2; y++ {
			for x := low.X - 2; x <= high.X+2; x++ {
				at := api.XY{X: x, Y: y}
				got, e := rod.Where(p, at)
				if want := where(p, at); got != want || e != api.OK {
					t.Fatalf("Where(%v, %v): %d, error %d, want %d", p, at, got, e, want)
				}
				switch got {
				case 0:
					on++
				case 1:
					in++
				}
			}
		}
		if border != on || inside != in || area != size(p) || area != border+2*inside-2 {
			t.Errorf("%v: Area %d, Border %d, Inside %d; counted %d, %d, %d", p, area, border, inside, size(p), on, in)
		}
		if left, e := rod.Left(p); left != (twiceArea(p) > 0) || e != api.OK {
			t.Errorf("Left(%v): %v, error %d", p, left, e)
		}
	}
}

func box(p []api.XY) (low, high api.XY) {
	low, high = p[0], p[0]
	for _, a := range p {
		low = api.XY{X: min(low.X, a.X), Y: min(low.Y, a.Y)}
		high = api.XY{X: max(high.X, a.X), Y: max(high.Y, a.Y)}
	}
	return low, high
}

// P1.5: posts far away are outside, and those on the rim of the range are told rightly.
func TestWhereFar(t *testing.T) {
	whole := posts(-1000, -1000, 1000, -1000, 1000, 1000, -1000, 1000)
	for _, c := range []struct {
		at   api.XY
		want int
	}{
		{api.XY{X: 1000, Y: 1000}, 0}, {api.XY{X: -1000, Y: 0}, 0}, {api.XY{X: 0, Y: 1000}, 0}, {api.XY{X: 999, Y: -999}, 1}, {api.XY{X: 0, Y: 0}, 1},
		{api.XY{X: 1001, Y: 0}, -1}, {api.XY{X: -1001, Y: 0}, -1}, {api.XY{X: 0, Y: 1001}, -1}, {api.XY{X: 0, Y: -1001}, -1}, {api.XY{X: 1001, Y: 1000}, -1}, {api.XY{X: 5000, Y: 5000}, -1},
	} {
		if n, e := rod.Where(whole, c.at); n != c.want || e != api.OK {
			t.Errorf("Where(%v): %d, error %d, want %d", c.at, n, e, c.want)
		}
	}
	near := append([]int{-1001, -1000, -1, 0, 1, 1000, 1001}, farNumbers...)
	for _, p := range [][]api.XY{whole, posts(0, 0, 4, 0, 4, 3), posts(-1000, -1000, 1000, 999, 999, 1000)} {
		for _, far := range farNumbers {
			for _, n := range near {
				for _, at := range []api.XY{{X: far, Y: n}, {X: n, Y: far}} {
					if got, e := rod.Where(p, at); got != -1 || e != api.OK {
						t.Errorf("Where(%v, %v): %d, error %d", p, at, got, e)
					}
				}
			}
		}
	}
}

// P1.10: Area, Border and Inside do not change by Move, by another first
// corner, or the other way round; Left changes the other way round alone.
func TestSameParcel(t *testing.T) {
	for _, p := range append(grown(200, 6), grown(50, 400)...) {
		area, border, inside := mustArea(t, p), mustBorder(t, p), mustInside(t, p)
		left, _ := rod.Left(p)
		same := func(what string, q []api.XY, leftNow bool) {
			t.Helper()
			if mustArea(t, q) != area || mustBorder(t, q) != border || mustInside(t, q) != inside {
				t.Errorf("%s: %v: Area %d, Border %d, Inside %d", what, q, mustArea(t, q), mustBorder(t, q), mustInside(t, q))
			}
			if is, e := rod.Left(q); is != leftNow || e != api.OK {
				t.Errorf("%s: Left(%v): %v, error %d", what, q, is, e)
			}
		}
		for i := range p {
			q := slices.Concat(p[i:], p[:i])
			same("another first corner", q, left)
			slices.Reverse(q)
			same("the other way round", q, !left)
		}
		for _, by := range []api.XY{{X: 3, Y: -7}, {X: -500, Y: 500}, {X: 0, Y: 1}, {}} {
			q, e := rod.Move(p, by)
			if e != api.OK {
				t.Fatalf("Move(%v, %v): error %d", p, by, e)
			}
			same("moved", q, left)
		}
	}
}

// P1.6, P1.11.
func TestStraight(t *testing.T) {
	for _, p := range parcels() {
		var want []api.XY
		for i := range p {
			if turn(p, i) != 0 {
				want = append(want, p[i])
			}
		}
		q, e := rod.Straight(p)
		if e != api.OK || !slices.Equal(q, want) {
			t.Fatalf("Straight(%v): %v, error %d, want %v", p, q, e, want)
		}
		if mustArea(t, q) != mustArea(t, p) || mustBorder(t, q) != mustBorder(t, p) || mustInside(t, q) != mustInside(t, p) {
			t.Errorf("Straight(%v) is another parcel: %v", p, q)
		}
		for i := range q {
			if turn(q, i) == 0 {
				t.Errorf("Straight(%v) has a straight corner: %v", p, q)
			}
		}
	}
	for _, c := range [][2][]api.XY{
		{posts(0, 0, 1, 0, 2, 0, 2, 2, 0, 2), posts(0, 0, 2, 0, 2, 2, 0, 2)},
		{posts(1, 0, 2, 0, 2, 1, 2, 2, 1, 2, 0, 2, 0, 1, 0, 0), posts(2, 0, 2, 2, 0, 2, 0, 0)},
		{posts(0, 0, 1, 0, 2, 0, 3, 0, 0, 3), posts(0, 0, 3, 0, 0, 3)},
	} {
		if q, e := rod.Straight(c[0]); e != api.OK || !slices.Equal(q, c[1]) {
			t.Errorf("Straight(%v): %v, error %d", c[0], q, e)
		}
	}
}

// P1.6.
func TestConvex(t *testing.T) {
	for _, p := range parcels() {
		left, right := false, false
		for i := range p {
			left = left || turn(p, i) > 0
			right = right || turn(p, i) < 0
		}
		for range 2 {
			if is, e := rod.Convex(p); is != (left != right) || e != api.OK {
				t.Errorf("Convex(%v): %v, error %d", p, is, e)
			}
			p = slices.Clone(p)
			slices.Reverse(p)
		}
	}
}

// R4: what is asked of a parcel does not change it, and results are new memory.
func TestParcelsAreKept(t *testing.T) {
	for _, p := range append(grown(50, 6), posts(0, 0, 4, 0, 4, 3)) {
		unchanged(t, "Valid", p, func(l []api.XY) { rod.Valid(l) })
		unchanged(t, "Area", p, func(l []api.XY) { rod.Area(l) })
		unchanged(t, "Border", p, func(l []api.XY) { rod.Border(l) })
		unchanged(t, "Inside", p, func(l []api.XY) { rod.Inside(l) })
		unchanged(t, "Where", p, func(l []api.XY) { rod.Where(l, p[0]) })
		unchanged(t, "Left", p, func(l []api.XY) { rod.Left(l) })
		unchanged(t, "Convex", p, func(l []api.XY) { rod.Convex(l) })
		unchanged(t, "Straight", p, func(l []api.XY) {
			q, _ := rod.Straight(l)
			spoil(q)
		})
		unchanged(t, "Move", p, func(l []api.XY) {
			q, _ := rod.Move(l, api.XY{X: 1})
			spoil(q)
			q, _ = rod.Move(l, api.XY{})
			spoil(q)
			rod.Move(l, api.XY{X: 1999})
		})
	}
}
