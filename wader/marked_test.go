package wader_test

import (
	"math"
	"math/rand/v2"
	"testing"

	"sedge/api"
	"sedge/wader"
)

// checkMarked looks at both numbers: what they must be multiplied with, and that
// no number divides both parts of the ratio.
func checkMarked(t *testing.T, first, second, again int) {
	t.Helper()
	r, n, e := wader.Marked(first, second, again)
	if e != api.OK || r.D < 1 || r.N*again != first*second*r.D {
		t.Errorf("Marked(%d, %d, %d): %v, error %d", first, second, again, r, e)
		return
	}
	for by := 2; by <= min(r.N, r.D); by++ {
		if r.N%by == 0 && r.D%by == 0 {
			t.Errorf("Marked(%d, %d, %d): %v, divided by %d", first, second, again, r, by)
		}
	}
	if (n+1)*(again+1) > (first+1)*(second+1) || (n+2)*(again+1) <= (first+1)*(second+1) {
		t.Errorf("Marked(%d, %d, %d): %d", first, second, again, n)
	}
}

// checkNoMark looks at an error, with which nothing else comes.
func checkNoMark(t *testing.T, first, second, again int, want api.Errno) {
	t.Helper()
	if r, n, e := wader.Marked(first, second, again); r != (api.Ratio{}) || n != 0 || e != want {
		t.Errorf("Marked(%d, %d, %d): %v, %d, error %d, want %d", first, second, again, r, n, e, want)
	}
}

// P6.6: all small catches, in range and not.
func TestMarked(t *testing.T) {
	for first := -2; first < 35; first++ {
		for second := -2; second < 35; second++ {
			for again := -2; again < 37; again++ {
				switch {
				case first < 0 || second < 0 || again < 0 || again > first || again > second:
					checkNoMark(t, first, second, again, api.ErrArg)
				case again == 0:
					checkNoMark(t, first, second, again, api.ErrNone)
				default:
					checkMarked(t, first, second, again)
				}
			}
		}
	}
}

// P6.6: catches of all sizes.
func TestMarkedOfMany(t *testing.T) {
	r := rand.New(rand.NewPCG(6, 6))
	for range 3000 {
		first, second := 1+r.IntN(1000000), 1+r.IntN(1000000)
		checkMarked(t, first, second, 1+r.IntN(min(first, second, 5000)))
	}
}

// P6.6: the chapter's second example, and others that are counted by hand.
func TestMarkedExamples(t *testing.T) {
	const most = 1000000
	for _, c := range []struct {
		first, second, again int
		ratio                api.Ratio
		n                    int
	}{
		{20, 30, 9, api.Ratio{N: 200, D: 3}, 64},
		{30, 20, 9, api.Ratio{N: 200, D: 3}, 64},
		{1, 1, 1, api.Ratio{N: 1, D: 1}, 1},
		{2, 1, 1, api.Ratio{N: 2, D: 1}, 2},
		{2, 2, 1, api.Ratio{N: 4, D: 1}, 3},
		{3, 2, 2, api.Ratio{N: 3, D: 1}, 3},
		{3, 3, 2, api.Ratio{N: 9, D: 2}, 4},
		{4, 3, 2, api.Ratio{N: 6, D: 1}, 5},
		{4, 4, 2, api.Ratio{N: 8, D: 1}, 7},
		{most, most, most, api.Ratio{N: most, D: 1}, most},
		{most, most, 1, api.Ratio{N: most * most, D: 1}, 500000999999},
		{most, most, most - 1, api.Ratio{N: most * most, D: most - 1}, most + 1},
		{most, 1, 1, api.Ratio{N: most, D: 1}, most},
		{most, most - 1, 3, api.Ratio{N: most * 333333, D: 1}, 250000249999},
	} {
		if r, n, e := wader.Marked(c.first, c.second, c.again); r != c.ratio || n != c.n || e != api.OK {
			t.Errorf("Marked(%d, %d, %d): %v, %d, error %d, want %v, %d", c.first, c.second, c.again, r, n, e, c.ratio, c.n)
		}
	}
}

// P6.6: the errors, also beside each other, in their order.
func TestMarkedErrors(t *testing.T) {
	const most = 1000000
	for _, c := range []struct {
		first, second, again int
		want                 api.Errno
	}{
		{0, 0, 0, api.ErrNone},
		{5, 0, 0, api.ErrNone},
		{0, 5, 0, api.ErrNone},
		{most, most, 0, api.ErrNone},
		{most + 1, 5, 0, api.ErrArg},
		{5, most + 1, 0, api.ErrArg},
		{most + 1, most, 1, api.ErrArg},
		{most, most + 1, 1, api.ErrArg},
		{-1, 5, 0, api.ErrArg},
		{5, -1, 0, api.ErrArg},
		{-1, -1, -1, api.ErrArg},
		{5, 5, -1, api.ErrArg},
		{5, 5, 6, api.ErrArg},
		{5, 4, 5, api.ErrArg},
		{4, 5, 5, api.ErrArg},
		{0, 5, 1, api.ErrArg},
		{5, 0, 1, api.ErrArg},
		{most, most, most + 1, api.ErrArg},
	} {
		checkNoMark(t, c.first, c.second, c.again, c.want)
	}
	for _, far := range farNumbers {
		for _, n := range []int{0, 1, -1, most, far, math.MaxInt} {
			checkNoMark(t, far, n, 0, api.ErrArg)
			checkNoMark(t, n, far, 0, api.ErrArg)
			checkNoMark(t, far, far, n, api.ErrArg)
			checkNoMark(t, most, most, far, api.ErrArg)
		}
	}
}
