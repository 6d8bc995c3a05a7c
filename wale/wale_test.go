package wale_test

import (
	"math"
	"math/rand/v2"
	"slices"
	"testing"

	"sedge/api"
	"sedge/wale"
)

// P5.2: rotations at the limits, and those that are not valid.
func TestValid(t *testing.T) {
	for _, r := range rotations() {
		if !wale.Valid(r.n, r.l) {
			t.Errorf("%v is not valid", r)
		}
	}
	for name, r := range map[string]rotation{
		"no changes":         {1, nil},
		"empty changes":      {1, []api.Change{}},
		"eight states":       {8, nil},
		"the greatest":       {8, changes(7, 7, 1000)},
		"the least":          {8, changes(0, 0, -1000)},
		"to and from behind": {8, changes(7, 0, 0, 0, 7, 0)},
		"40 changes":         {1, slices.Repeat(changes(0, 0, 1), 40)},
		"the same changes":   {2, changes(0, 1, 5, 0, 1, 5, 0, 1, 7)},
	} {
		if !wale.Valid(r.n, r.l) {
			t.Errorf("%s: not valid", name)
		}
	}
	for name, r := range badRotations() {
		if wale.Valid(r.n, r.l) {
			t.Errorf("%s: valid", name)
		}
	}
}

// P5.1, R2: ErrRotation comes ahead of what is wrong beside it, and with nothing else.
func TestRotationErrors(t *testing.T) {
	for name, r := range badRotations() {
		check := func(what string, zero bool, e api.Errno) {
			t.Helper()
			if !zero || e != api.ErrRotation {
				t.Errorf("%s, %s: a result %v, error %d", what, name, !zero, e)
			}
		}
		for _, at := range []int{0, -1, 8, 1 << 40} {
			for _, list := range [][]int{nil, {0}, {-1}, {7}, make([]int, 1001)} {
				is, e := wale.IsPlan(r.n, r.l, at, list)
				check("IsPlan", !is, e)
				n, e := wale.Worth(r.n, r.l, at, list)
				check("Worth", n == 0, e)
				m, e := wale.Share(r.n, r.l, list, at)
				check("Share", m == api.Ratio{}, e)
				is, e = wale.IsCircle(r.n, r.l, list)
				check("IsCircle", !is, e)
				m, e = wale.MeanOf(r.n, r.l, list)
				check("MeanOf", m == api.Ratio{}, e)
				is, e = wale.Proves(r.n, r.l, list, api.Ratio{N: 0, D: at})
				check("Proves", !is, e)
			}
			for _, years := range []int{0, 1, 100, 101, -1, 1 << 40} {
				n, e := wale.Best(r.n, r.l, at, years)
				check("Best", n == 0, e)
				l, e := wale.Plan(r.n, r.l, at, years)
				check("Plan", len(l) == 0, e)
				l, e = wale.After(r.n, r.l, at, years)
				check("After", len(l) == 0, e)
			}
		}
		l, e := wale.Ends(r.n, r.l)
		check("Ends", len(l) == 0, e)
		m, e := wale.Mean(r.n, r.l)
		check("Mean", m == api.Ratio{}, e)
		l, e = wale.Circle(r.n, r.l)
		check("Circle", len(l) == 0, e)
		l, e = wale.Heights(r.n, r.l)
		check("Heights", len(l) == 0, e)
		back, e := wale.Turned(r.n, r.l)
		check("Turned", len(back) == 0, e)
	}
}

// checkPlan looks at IsPlan and Worth of a list.
func checkPlan(t *testing.T, r rotation, start int, list []int) {
	t.Helper()
	want, worth, err := r.isPlan(start, list), 0, api.ErrNone
	if want {
		worth, err = r.worth(list), api.OK
	}
	if is, e := wale.IsPlan(r.n, r.l, start, list); is != want || e != api.OK {
		t.Errorf("IsPlan(%v, %d, %v): %v, error %d", r, start, list, is, e)
	}
	if n, e := wale.Worth(r.n, r.l, start, list); n != worth || e != err {
		t.Errorf("Worth(%v, %d, %v): %d, error %d, want %d, %d", r, start, list, n, e, worth, err)
	}
}

// P5.2: all short lists of changes, and of what is none, for small rotations.
func TestIsPlan(t *testing.T) {
	for i, r := range smallRotations() {
		if len(r.l) == 3 && i%5 > 0 {
			continue
		}
		for start := range r.n {
			for count := range 4 {
				lists(count, -1, len(r.l), func(l []int) { checkPlan(t, r, start, l) })
			}
		}
	}
}

// P5.2: drawn lists, which are plans but for a change or two.
func TestIsPlanOfMany(t *testing.T) {
	r := rand.New(rand.NewPCG(5, 2))
	for _, x := range larger() {
		for start, b := range x.firsts(40)[r.IntN(41)] {
			for count := range 3 {
				l := slices.Clone(b.plan)
				for range min(count, len(l)) {
					l[r.IntN(len(l))] = r.IntN(len(x.l))
				}
				checkPlan(t, x, start, l)
				checkPlan(t, x, r.IntN(x.n), l)
			}
		}
	}
}

// P5.2: lists that are counted by hand, and those at the limits.
func TestPlanExamples(t *testing.T) {
	r := rotation{3, changes(0, 1, 1000, 1, 0, -1, 1, 1, 1000, 2, 2, -1000, 1, 1, 7)}
	for _, c := range []struct {
		start int
		plan  []int
		is    bool
		worth int
	}{
		{0, nil, true, 0},
		{2, []int{}, true, 0},
		{0, []int{0}, true, 1000},
		{1, []int{0}, false, 0},
		{2, []int{0}, false, 0},
		{0, []int{0, 1, 0, 2, 4}, true, 3006},
		{0, []int{0, 0}, false, 0},
		{0, []int{0, 3}, false, 0},
		{1, []int{4, 2, 4}, true, 1014},
		{0, []int{5}, false, 0},
		{0, []int{0, 5}, false, 0},
		{0, []int{-1}, false, 0},
		{0, []int{0, -1}, false, 0},
		{0, []int{0, math.MinInt}, false, 0},
		{0, []int{math.MaxInt}, false, 0},
		{2, slices.Repeat([]int{3}, 1000), true, -1000000},
		{1, slices.Repeat([]int{2}, 1000), true, 1000000},
		{1, slices.Repeat([]int{3}, 1000), false, 0},
		{1, append(slices.Repeat([]int{2}, 999), 3), false, 0},
		{1, append(slices.Repeat([]int{2}, 999), 1), true, 998999},
	} {
		if is := r.isPlan(c.start, c.plan); is != c.is || is && r.worth(c.plan) != c.worth {
			t.Fatalf("%v from %d is one: %v", c.plan, c.start, is)
		}
		checkPlan(t, r, c.start, c.plan)
	}
	if is, e := wale.IsPlan(1, nil, 0, nil); !is || e != api.OK {
		t.Errorf("IsPlan without changes: %v, error %d", is, e)
	}
	if is, e := wale.IsPlan(1, nil, 0, []int{0}); is || e != api.OK {
		t.Errorf("IsPlan of a change where there is none: %v, error %d", is, e)
	}
}

// P5.2: states that are none and lists that are too long, ahead of ErrNone.
func TestPlanErrors(t *testing.T) {
	r := rotation{3, changes(0, 0, 1, 1, 2, 0)}
	check := func(start int, plan []int) {
		t.Helper()
		if is, e := wale.IsPlan(r.n, r.l, start, plan); is || e != api.ErrArg {
			t.Errorf("IsPlan from %d of %d changes: %v, error %d", start, len(plan), is, e)
		}
		if n, e := wale.Worth(r.n, r.l, start, plan); n != 0 || e != api.ErrArg {
			t.Errorf("Worth from %d of %d changes: %d, error %d", start, len(plan), n, e)
		}
	}
	for _, start := range append([]int{-1, 3, 4, 8}, farNumbers...) {
		for _, plan := range [][]int{nil, {0}, {1}, {-1}, {2}, make([]int, 1001)} {
			check(start, plan)
		}
	}
	for start := range 3 {
		for _, count := range []int{1001, 1002, 100000} {
			check(start, make([]int, count))
			check(start, slices.Repeat([]int{-1}, count))
		}
	}
}

// P5.7, P5.9: each change leads back, and turned twice a rotation is as it was.
func TestTurned(t *testing.T) {
	for _, r := range rotations() {
		back, e := wale.Turned(r.n, r.l)
		if len(back) != len(r.l) || e != api.OK {
			t.Fatalf("Turned of %v: %v, error %d", r, back, e)
		}
		for i, c := range back {
			if c.From != r.l[i].To || c.To != r.l[i].From || c.Worth != r.l[i].Worth {
				t.Errorf("Turned of %v: %v", r, back)
			}
		}
		if again, e := wale.Turned(r.n, back); !slices.Equal(again, r.l) || e != api.OK {
			t.Errorf("Turned twice of %v: %v, error %d", r, again, e)
		}
	}
}

// spoil overwrites a result to show whether its memory is shared.
func spoil(l []int) {
	l = l[:cap(l)]
	for i := range l {
		l[i] = -99
	}
}

// R4: no call changes its arguments or gives out their memory.
func TestRotationsAreKept(t *testing.T) {
	for _, x := range larger() {
		marks := changes(77, 77, 77, 77, 77, 77)
		kept := append(slices.Clone(x.l), marks...)
		all := slices.Clone(kept)
		r := rotation{x.n, all[:len(x.l)]}
		args := []int{0, 1, 0, 77, 77}
		list, heights := args[:2], slices.Repeat([]int{5}, 8+2)
		for start := range r.n {
			wale.IsPlan(r.n, r.l, start, list)
			wale.Worth(r.n, r.l, start, list)
			wale.Share(r.n, r.l, list, start)
			wale.Best(r.n, r.l, start, 9)
			l, _ := wale.Plan(r.n, r.l, start, 9)
			spoil(l)
			l, _ = wale.After(r.n, r.l, start, 9)
			spoil(l)
		}
		wale.Valid(r.n, r.l)
		wale.IsCircle(r.n, r.l, list)
		wale.MeanOf(r.n, r.l, list)
		wale.Mean(r.n, r.l)
		wale.Proves(r.n, r.l, heights[:r.n], api.Ratio{N: 1, D: 1})
		l, _ := wale.Ends(r.n, r.l)
		spoil(l)
		l, _ = wale.Circle(r.n, r.l)
		spoil(l)
		l, _ = wale.Heights(r.n, r.l)
		spoil(l)
		back, _ := wale.Turned(r.n, r.l)
		back = back[:cap(back)]
		for i := range back {
			back[i] = api.Change{From: -99, To: -99, Worth: -99}
		}
		if !slices.Equal(all, kept) || !slices.Equal(args, []int{0, 1, 0, 77, 77}) || !slices.Equal(heights, slices.Repeat([]int{5}, 10)) {
			t.Errorf("arguments are changed: %v, %v, %v", all, args, heights)
		}
	}
}

// Equal calls have equal results, one after the other.
func TestAgain(t *testing.T) {
	for _, r := range larger() {
		circle, e := wale.Circle(r.n, r.l)
		heights, f := wale.Heights(r.n, r.l)
		after := value[[]int](t, "After", r)(wale.After(r.n, r.l, 0, 5))
		for range 3 {
			if l, g := wale.Circle(r.n, r.l); !slices.Equal(l, circle) || g != e {
				t.Errorf("Circle of %v: %v and %v", r, circle, l)
			}
			if l, g := wale.Heights(r.n, r.l); !slices.Equal(l, heights) || g != f {
				t.Errorf("Heights of %v: %v and %v", r, heights, l)
			}
			if l, g := wale.After(r.n, r.l, 0, 5); !slices.Equal(l, after) || g != api.OK {
				t.Errorf("After of %v: %v and %v", r, after, l)
			}
		}
	}
}
