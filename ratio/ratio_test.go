package ratio_test

import (
	"math"
	"testing"

	"sedge/api"
	"sedge/ratio"
)

// divisor tries all numbers.
func divisor(a, b int) int {
	for n := max(a, -a, b, -b); n > 0; n-- {
		if a%n == 0 && b%n == 0 {
			return n
		}
	}
	return 0
}

func TestDivisor(t *testing.T) {
	for a := -60; a <= 60; a++ {
		for b := -60; b <= 60; b++ {
			if n := ratio.Divisor(a, b); n != divisor(a, b) {
				t.Errorf("Divisor(%d, %d): %d", a, b, n)
			}
		}
	}
}

func TestLowest(t *testing.T) {
	for n := -60; n <= 60; n++ {
		for d := 1; d <= 60; d++ {
			by := divisor(n, d)
			if r := ratio.Lowest(n, d); r != (api.Ratio{N: n / by, D: d / by}) {
				t.Errorf("Lowest(%d, %d): %v", n, d, r)
			}
		}
	}
}

// The greatest numbers, and denominators that make no fraction.
func TestLowestAtTheLimits(t *testing.T) {
	for _, c := range []struct {
		n, d int
		want api.Ratio
	}{
		{math.MinInt, 6, api.Ratio{N: math.MinInt / 2, D: 3}},
		{math.MinInt, 1, api.Ratio{N: math.MinInt, D: 1}},
		{math.MinInt, math.MaxInt, api.Ratio{N: math.MinInt, D: math.MaxInt}},
		{math.MaxInt, math.MaxInt, api.Ratio{N: 1, D: 1}},
		{0, math.MaxInt, api.Ratio{N: 0, D: 1}},
		{0, 0, api.Ratio{}},
		{5, 0, api.Ratio{}},
		{5, -5, api.Ratio{}},
		{math.MinInt, -1, api.Ratio{}},
		{math.MinInt, math.MinInt, api.Ratio{}},
	} {
		if r := ratio.Lowest(c.n, c.d); r != c.want {
			t.Errorf("Lowest(%d, %d): %v, want %v", c.n, c.d, r, c.want)
		}
	}
}
