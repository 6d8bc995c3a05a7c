package wale_test

import (
	"math"
	"math/rand/v2"
	"slices"
	"testing"

	"sedge/api"
	"sedge/wale"
)

// checkProves looks at Proves, and if heights prove a mean, that no circle has
// a greater one.
func checkProves(t *testing.T, r rotation, heights []int, mean, greatest api.Ratio) {
	t.Helper()
	want := r.proves(heights, mean)
	if is, e := wale.Proves(r.n, r.l, heights, mean); is != want || e != api.OK {
		t.Errorf("Proves(%v, %v, %v): %v, error %d", r, heights, mean, is, e)
	}
	if want && greatest.D > 0 && above(greatest, mean) {
		t.Errorf("%v prove %v for %v, but the greatest mean is %v", heights, mean, r, greatest)
	}
}

// P5.6, P5.9: small heights and means for small rotations.
func TestProves(t *testing.T) {
	for i, r := range smallRotations() {
		if len(r.l) == 3 && i%3 > 0 {
			continue
		}
		greatest, _ := r.mean()
		lists(r.n, -1, 2, func(heights []int) {
			for d := 1; d <= r.n; d++ {
				for n := -2; n <= 4; n++ {
					checkProves(t, r, heights, api.Ratio{N: n, D: d}, greatest)
				}
			}
		})
	}
}

// P5.6, P5.9: Heights that are raised here and there, with means about the
// greatest one.
func TestProvesOfMany(t *testing.T) {
	r := rand.New(rand.NewPCG(5, 6))
	for _, x := range larger() {
		greatest, is := x.mean()
		if !is {
			greatest = api.Ratio{N: r.IntN(20), D: 1}
		}
		heights, _ := wale.Heights(x.n, x.l)
		for range 30 {
			l := append(slices.Clone(heights), make([]int, x.n-len(heights))...)
			for range r.IntN(3) {
				l[r.IntN(x.n)] += r.IntN([]int{3, 2000}[r.IntN(2)]) - 1
			}
			mean := greatest
			switch r.IntN(4) {
			case 0:
				mean.N = min(mean.N+r.IntN(3), 1000*x.n)
			case 1:
				mean.N = max(mean.N-r.IntN(3), -1000*x.n)
			case 2:
				mean.D = 1 + r.IntN(x.n)
			}
			known := greatest
			if !is {
				known = api.Ratio{}
			}
			checkProves(t, x, l, mean, known)
		}
	}
}

// P5.6: a ratio need not be in lowest terms, and heights may be moved together.
func TestProvesAgain(t *testing.T) {
	for _, r := range larger() {
		mean, e := wale.Mean(r.n, r.l)
		if e != api.OK {
			continue
		}
		heights := value[[]int](t, "Heights", r)(wale.Heights(r.n, r.l))
		for by := 1; by*mean.D <= r.n; by++ {
			for _, more := range []int{0, -1, 1, 50000, -500000} {
				l := slices.Clone(heights)
				for i := range l {
					l[i] = l[i]*by + more
				}
				if slices.Max(l) > 1000000 || slices.Min(l) < -1000000 {
					continue
				}
				m := api.Ratio{N: mean.N * by, D: mean.D * by}
				if is, e := wale.Proves(r.n, r.l, l, m); !is || e != api.OK {
					t.Errorf("Proves(%v, %v, %v): %v, error %d", r, l, m, is, e)
				}
			}
		}
	}
}

// P5.6: the chapter's example, others that are counted by hand, and the errors.
func TestProvesExamples(t *testing.T) {
	r := rotation{2, changes(0, 0, 3, 0, 1, 0, 1, 0, 9)}
	chain := rotation{2, changes(0, 1, 1000)}
	for _, c := range []struct {
		r       rotation
		heights []int
		mean    api.Ratio
		want    bool
		e       api.Errno
	}{
		{r, []int{0, 9}, api.Ratio{N: 9, D: 2}, true, api.OK},
		{r, []int{0, 8}, api.Ratio{N: 9, D: 2}, false, api.OK},
		{r, []int{0, 10}, api.Ratio{N: 9, D: 2}, false, api.OK},
		{r, []int{-5, 4}, api.Ratio{N: 9, D: 2}, true, api.OK},
		{r, []int{0, 9}, api.Ratio{N: 8, D: 2}, false, api.OK},
		{r, []int{0, 9}, api.Ratio{N: 10, D: 2}, true, api.OK},
		{r, []int{0, 4}, api.Ratio{N: 5, D: 1}, true, api.OK},
		{r, []int{0, 5}, api.Ratio{N: 5, D: 1}, true, api.OK},
		{r, []int{0, 3}, api.Ratio{N: 5, D: 1}, false, api.OK},
		{r, []int{0, 6}, api.Ratio{N: 5, D: 1}, false, api.OK},
		{r, []int{0, 0}, api.Ratio{N: 2000, D: 2}, true, api.OK},
		{r, []int{0, 0}, api.Ratio{N: -2000, D: 2}, false, api.OK},
		{r, []int{1000000, -1000000}, api.Ratio{N: 2000, D: 1}, false, api.OK},
		{r, []int{-1000000, 1000000}, api.Ratio{N: 2000, D: 1}, false, api.OK},
		{chain, []int{0, -3000}, api.Ratio{N: -2000, D: 1}, true, api.OK}, // without a circle anything may be proved
		{chain, []int{0, -2999}, api.Ratio{N: -2000, D: 1}, false, api.OK},
		{rotation{n: 1}, []int{0}, api.Ratio{N: -1000, D: 1}, true, api.OK},
		{rotation{n: 1}, []int{-1000000}, api.Ratio{N: 1000, D: 1}, true, api.OK},
		{rotation{n: 8}, slices.Repeat([]int{1000000}, 8), api.Ratio{N: -8000, D: 8}, true, api.OK},
		{rotation{n: 8}, make([]int, 8), api.Ratio{N: 8000, D: 1}, true, api.OK},
		{rotation{n: 8}, make([]int, 8), api.Ratio{N: 0, D: 4}, true, api.OK},
		{r, []int{0}, api.Ratio{N: 9, D: 2}, false, api.ErrArg},
		{r, []int{0, 9, 0}, api.Ratio{N: 9, D: 2}, false, api.ErrArg},
		{r, nil, api.Ratio{N: 9, D: 2}, false, api.ErrArg},
		{r, make([]int, 100000), api.Ratio{N: 9, D: 2}, false, api.ErrArg},
		{r, []int{0, 1000001}, api.Ratio{N: 9, D: 2}, false, api.ErrArg},
		{r, []int{1000001, 9}, api.Ratio{N: 9, D: 2}, false, api.ErrArg},
		{r, []int{0, -1000001}, api.Ratio{N: 9, D: 2}, false, api.ErrArg},
		{r, []int{-1000001, 9}, api.Ratio{N: 9, D: 2}, false, api.ErrArg},
		{r, []int{0, 9}, api.Ratio{N: 9, D: 3}, false, api.ErrArg},
		{r, []int{0, 9}, api.Ratio{N: 9, D: 0}, false, api.ErrArg},
		{r, []int{0, 9}, api.Ratio{}, false, api.ErrArg},
		{r, []int{0, 9}, api.Ratio{N: -9, D: -2}, false, api.ErrArg},
		{r, []int{0, 9}, api.Ratio{N: 2001, D: 2}, false, api.ErrArg},
		{r, []int{0, 9}, api.Ratio{N: -2001, D: 2}, false, api.ErrArg},
		{rotation{n: 1}, []int{0}, api.Ratio{N: 0, D: 2}, false, api.ErrArg},
		{rotation{n: 1}, []int{0}, api.Ratio{N: 1001, D: 1}, false, api.ErrArg},
		{rotation{n: 8}, make([]int, 8), api.Ratio{N: 0, D: 9}, false, api.ErrArg},
	} {
		if is, e := wale.Proves(c.r.n, c.r.l, c.heights, c.mean); is != c.want || e != c.e {
			t.Errorf("Proves(%v, %v, %v): %v, error %d", c.r, c.heights[:min(len(c.heights), 9)], c.mean, is, e)
		}
	}
	for _, n := range farNumbers {
		for _, heights := range [][]int{{n, 0}, {0, n}, {n, n}} {
			if is, e := wale.Proves(r.n, r.l, heights, api.Ratio{N: 9, D: 2}); is || e != api.ErrArg {
				t.Errorf("Proves of %v: %v, error %d", heights, is, e)
			}
		}
		for _, mean := range []api.Ratio{{N: n, D: 2}, {N: 9, D: n}, {N: n, D: n}, {N: math.MaxInt, D: n}} {
			if is, e := wale.Proves(r.n, r.l, []int{0, 9}, mean); is || e != api.ErrArg {
				t.Errorf("Proves of %v: %v, error %d", mean, is, e)
			}
		}
	}
}

// P5.10: heights that prove a mean bound Best for any number of years.
func TestLongRun(t *testing.T) {
	r := rand.New(rand.NewPCG(5, 10))
	for _, x := range slices.Concat(someRotations(120), limitRotations()) {
		mean, e := wale.Mean(x.n, x.l)
		if e != api.OK {
			continue
		}
		heights := value[[]int](t, "Heights", x)(wale.Heights(x.n, x.l))
		raised := slices.Clone(heights)
		raised[r.IntN(x.n)] += r.IntN(100)
		more := api.Ratio{N: min(mean.N+100, 1000*x.n), D: mean.D}
		if is, e := wale.Proves(x.n, x.l, raised, more); e != api.OK || !is {
			raised, more = heights, mean
		}
		for _, years := range []int{0, 1, 2, 3, 5, 7, 8, 9, 16, 50, 99, 100} {
			for start := range x.n {
				n, e := wale.Best(x.n, x.l, start, years)
				if e != api.OK {
					continue
				}
				if mean.D*n > years*mean.N+heights[start]-slices.Min(heights) || more.D*n > years*more.N+raised[start]-slices.Min(raised) {
					t.Errorf("Best(%v, %d, %d): %d; %v prove %v, %v prove %v", x, start, years, n, heights, mean, raised, more)
				}
			}
		}
	}
}
