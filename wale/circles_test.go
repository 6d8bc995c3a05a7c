package wale_test

import (
	"math"
	"math/rand/v2"
	"slices"
	"testing"

	"sedge/api"
	"sedge/wale"
)

// checkList looks at IsCircle, MeanOf and Share of a list.
func checkList(t *testing.T, r rotation, list []int) {
	t.Helper()
	want, err := r.isCircle(list), api.ErrNone
	var mean api.Ratio
	if want {
		mean, err = lowest(r.worth(list), len(list)), api.OK
	}
	if is, e := wale.IsCircle(r.n, r.l, list); is != want || e != api.OK {
		t.Errorf("IsCircle(%v, %v): %v, error %d", r, list, is, e)
	}
	if m, e := wale.MeanOf(r.n, r.l, list); m != mean || e != err {
		t.Errorf("MeanOf(%v, %v): %v, error %d, want %v, %d", r, list, m, e, mean, err)
	}
	for state := range r.n {
		var share api.Ratio
		if want {
			share = api.Ratio{N: 0, D: 1}
		}
		for _, i := range list {
			if want && r.l[i].From == state {
				share = api.Ratio{N: 1, D: len(list)}
			}
		}
		if m, e := wale.Share(r.n, r.l, list, state); m != share || e != err {
			t.Errorf("Share(%v, %v, %d): %v, error %d, want %v, %d", r, list, state, m, e, share, err)
		}
	}
}

// P5.5: all short lists of changes, and of what is none, for small rotations.
func TestIsCircle(t *testing.T) {
	for i, r := range smallRotations() {
		if len(r.l) == 3 && i%11 > 0 {
			continue
		}
		for count := range r.n + 2 {
			lists(count, -1, len(r.l), func(l []int) { checkList(t, r, l) })
		}
	}
}

// P5.5: all circles of larger rotations, begun at each of their changes, and
// lists that are no circles but for a change or two. (A list of changes one
// behind the other may also come to a state twice.)
func TestIsCircleOfMany(t *testing.T) {
	r := rand.New(rand.NewPCG(5, 5))
	for i, x := range larger() {
		count := 0
		x.circles(func(circle []int) {
			count++
			if count > 50 && count%97 != i%97 {
				return
			}
			checkList(t, x, circle)
			checkList(t, x, circle[1:])
			checkList(t, x, circle[:len(circle)-1])
			checkList(t, x, slices.Concat(circle, circle))
			other := slices.Clone(circle)
			other[r.IntN(len(other))] = r.IntN(len(x.l))
			checkList(t, x, other)
		})
		for _, b := range x.firsts(9) {
			checkList(t, x, b[r.IntN(x.n)].plan)
		}
	}
}

// P5.5: lists that are looked at by hand.
func TestCircleExamples(t *testing.T) {
	r := rotation{4, changes(0, 0, 3, 0, 1, 0, 1, 0, 9, 1, 2, -6, 2, 0, -4, 1, 0, 8, 3, 3, 0)}
	for _, c := range []struct {
		list []int
		is   bool
		mean api.Ratio
	}{
		{nil, false, api.Ratio{}},
		{[]int{}, false, api.Ratio{}},
		{[]int{0}, true, api.Ratio{N: 3, D: 1}},
		{[]int{6}, true, api.Ratio{N: 0, D: 1}},
		{[]int{1, 2}, true, api.Ratio{N: 9, D: 2}},
		{[]int{2, 1}, true, api.Ratio{N: 9, D: 2}},
		{[]int{5, 1}, true, api.Ratio{N: 4, D: 1}},
		{[]int{1, 3, 4}, true, api.Ratio{N: -10, D: 3}},
		{[]int{3, 4, 1}, true, api.Ratio{N: -10, D: 3}},
		{[]int{4, 1, 3}, true, api.Ratio{N: -10, D: 3}},
		{[]int{1}, false, api.Ratio{}},
		{[]int{1, 3}, false, api.Ratio{}},
		{[]int{3, 4}, false, api.Ratio{}},
		{[]int{1, 1}, false, api.Ratio{}},
		{[]int{0, 0}, false, api.Ratio{}}, // the same From twice
		{[]int{0, 1, 2}, false, api.Ratio{}},
		{[]int{1, 2, 0}, false, api.Ratio{}},
		{[]int{1, 2, 1, 5}, false, api.Ratio{}},
		{[]int{0, 6}, false, api.Ratio{}}, // two circles
		{[]int{7}, false, api.Ratio{}},
		{[]int{-1}, false, api.Ratio{}},
		{[]int{1, -1}, false, api.Ratio{}},
		{[]int{1, 7}, false, api.Ratio{}},
		{[]int{math.MinInt}, false, api.Ratio{}},
		{[]int{1, math.MaxInt}, false, api.Ratio{}},
		{make([]int, 8), false, api.Ratio{}},
		{make([]int, 100000), false, api.Ratio{}},
	} {
		if is, e := wale.IsCircle(r.n, r.l, c.list); is != c.is || e != api.OK {
			t.Errorf("IsCircle of %v: %v, error %d", c.list[:min(len(c.list), 9)], is, e)
		}
		if m, e := wale.MeanOf(r.n, r.l, c.list); m != c.mean || (e == api.OK) != c.is || !c.is && e != api.ErrNone {
			t.Errorf("MeanOf of %v: %v, error %d", c.list[:min(len(c.list), 9)], m, e)
		}
	}
	if is, e := wale.IsCircle(1, nil, []int{0}); is || e != api.OK {
		t.Errorf("IsCircle without changes: %v, error %d", is, e)
	}
}

// P5.5, P5.11: the Shares of a circle add up to 1; the errors and their order.
func TestShare(t *testing.T) {
	for _, r := range larger() {
		circle, e := wale.Circle(r.n, r.l)
		if e != api.OK {
			continue
		}
		sum := api.Ratio{N: 0, D: 1}
		for state := range r.n {
			m := value[api.Ratio](t, "Share", r)(wale.Share(r.n, r.l, circle, state))
			sum = api.Ratio{N: sum.N*m.D + m.N*sum.D, D: sum.D * m.D}
		}
		if sum.N != sum.D {
			t.Errorf("Shares of %v, %v: %v", r, circle, sum)
		}
	}
	r := rotation{2, changes(0, 0, 3, 0, 1, 0, 1, 0, 9)}
	for _, state := range append([]int{-1, 2, 3, 8}, farNumbers...) {
		for _, list := range [][]int{nil, {0}, {1, 2}, {1}, {-1}, {3}} {
			if m, e := wale.Share(r.n, r.l, list, state); m != (api.Ratio{}) || e != api.ErrArg {
				t.Errorf("Share(%v, %d): %v, error %d", list, state, m, e)
			}
		}
	}
}

// checkMean looks at Mean, Circle and Heights, also of what is turned.
func checkMean(t *testing.T, r rotation, want api.Ratio, is bool) {
	t.Helper()
	err := api.ErrNone
	if is {
		err = api.OK
	}
	if m, e := wale.Mean(r.n, r.l); m != want || e != err {
		t.Errorf("Mean of %v: %v, error %d, want %v, %d", r, m, e, want, err)
	}
	back := value[[]api.Change](t, "Turned", r)(wale.Turned(r.n, r.l))
	if m, e := wale.Mean(r.n, back); m != want || e != err {
		t.Errorf("Mean of %v, turned: %v, error %d, want %v, %d", r, m, e, want, err)
	}
	circle, e := wale.Circle(r.n, r.l)
	heights, f := wale.Heights(r.n, r.l)
	if e != err || f != err || !is && (len(circle) > 0 || len(heights) > 0) {
		t.Errorf("Circle of %v: %v, error %d; Heights: %v, error %d", r, circle, e, heights, f)
	}
	if !is || e != api.OK || f != api.OK {
		return
	}
	if !r.isCircle(circle) || lowest(r.worth(circle), len(circle)) != want {
		t.Errorf("Circle of %v: %v, which has not the mean %v", r, circle, want)
	}
	if is, e := wale.IsCircle(r.n, r.l, circle); !is || e != api.OK {
		t.Errorf("IsCircle(%v, %v): %v, error %d", r, circle, is, e)
	}
	if m, e := wale.MeanOf(r.n, r.l, circle); m != want || e != api.OK {
		t.Errorf("MeanOf(%v, %v): %v, error %d, want %v", r, circle, m, e, want)
	}
	far := slices.ContainsFunc(heights, func(h int) bool { return h < -1000000 || h > 1000000 })
	if len(heights) != r.n || far || !r.proves(heights, want) {
		t.Errorf("Heights of %v: %v, which do not prove %v", r, heights, want)
	}
	if is, e := wale.Proves(r.n, r.l, heights, want); !is || e != api.OK {
		t.Errorf("Proves(%v, %v, %v): %v, error %d", r, heights, want, is, e)
	}
}

// P5.5, P5.6, P5.9: the greatest mean of all circles, and the heights that
// prove it.
func TestMean(t *testing.T) {
	for _, r := range append(rotations(), someRotations(1500)...) {
		m, is := r.mean()
		checkMean(t, r, m, is)
	}
}

// P5.5, P5.6: means that are counted by hand.
func TestMeanExamples(t *testing.T) {
	for _, c := range []struct {
		r    rotation
		want api.Ratio
	}{
		{rotation{2, changes(0, 0, 3, 0, 1, 0, 1, 0, 9)}, api.Ratio{N: 9, D: 2}},
		{rotation{1, changes(0, 0, -7)}, api.Ratio{N: -7, D: 1}},
		{rotation{1, changes(0, 0, -7, 0, 0, 0, 0, 0, -1)}, api.Ratio{N: 0, D: 1}},
		{rotation{2, changes(0, 1, 5, 1, 0, -5)}, api.Ratio{N: 0, D: 1}},
		{rotation{2, changes(0, 1, 5, 1, 0, 5)}, api.Ratio{N: 5, D: 1}},
		{rotation{2, changes(0, 1, 1000, 1, 0, 1000, 0, 0, 1000)}, api.Ratio{N: 1000, D: 1}},
		{rotation{4, changes(0, 1, 1000, 1, 2, 1000, 2, 2, -3, 2, 3, 1000)}, api.Ratio{N: -3, D: 1}},                             // what does not come back does not count
		{rotation{4, changes(0, 1, 1, 1, 0, 2, 2, 3, 1, 3, 2, 3)}, api.Ratio{N: 2, D: 1}},                                        // apart from each other
		{rotation{4, changes(2, 3, 1, 3, 2, 3, 0, 1, 1, 1, 0, 2)}, api.Ratio{N: 2, D: 1}},                                        // the best one first
		{rotation{4, changes(0, 1, -1, 1, 2, -2, 2, 3, -3, 3, 0, -4)}, api.Ratio{N: -5, D: 2}},                                   // -10 / 4
		{rotation{6, changes(0, 1, 1, 1, 2, 1, 2, 3, 1, 3, 4, 1, 4, 5, 1, 5, 0, -1)}, api.Ratio{N: 2, D: 3}},                     // 4 / 6
		{rotation{4, changes(0, 1, 9, 1, 0, -9, 1, 2, 9, 2, 3, 9, 3, 0, -25)}, api.Ratio{N: 1, D: 2}},                            // 2 / 4, and not 0 / 2
		{rotation{8, changes(0, 1, 0, 1, 2, 0, 2, 3, 0, 3, 4, 0, 4, 5, 0, 5, 6, 0, 6, 7, 0, 7, 0, 1)}, api.Ratio{N: 1, D: 8}},    // round all of them
		{rotation{8, changes(0, 1, 0, 1, 2, 0, 2, 3, 0, 3, 4, 0, 4, 5, 0, 5, 6, 0, 6, 7, 0, 7, 7, 1)}, api.Ratio{N: 1, D: 1}},    // far from the first one
		{rotation{8, changes(0, 1, 0, 1, 0, -1, 1, 2, 0, 2, 3, 0, 3, 4, 0, 4, 5, 0, 5, 6, 0, 6, 0, -3)}, api.Ratio{N: -3, D: 7}}, // -3/7 is above -1/2
	} {
		checkMean(t, c.r, c.want, true)
	}
	for _, r := range []rotation{{n: 1}, {n: 8}, {2, changes(0, 1, 5)}, {3, changes(0, 1, 5, 1, 2, 1, 0, 2, 9)}} {
		checkMean(t, r, api.Ratio{}, false)
	}
}
