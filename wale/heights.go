package wale

import (
	"slices"

	"sedge/api"
)

const maxHeight = 1000000

// Heights returns heights that prove the greatest mean of a circle: for each
// state the most that a plan from it is worth above this mean. Plans of fewer
// than n changes are enough, as a circle in one adds nothing to it.
func Heights(n int, l []api.Change) ([]int, api.Errno) {
	mean, err := Mean(n, l)
	if err != api.OK {
		return nil, err
	}
	out := make([]int, n)
	for years, worths := range (rotation{n, l}).worths(n - 1) {
		for state, worth := range worths {
			if worth != none {
				out[state] = max(out[state], mean.D*worth-mean.N*years)
			}
		}
	}
	return out, api.OK
}

// Proves reports whether heights prove a mean.
func Proves(n int, l []api.Change, heights []int, mean api.Ratio) (bool, api.Errno) {
	if !Valid(n, l) {
		return false, api.ErrRotation
	}
	if len(heights) != n || !areHeights(heights) || !canBeMean(n, mean) {
		return false, api.ErrArg
	}
	return !slices.ContainsFunc(l, func(c api.Change) bool {
		return mean.D*c.Worth-mean.N+heights[c.To] > heights[c.From]
	}), api.OK
}

func areHeights(l []int) bool {
	return !slices.ContainsFunc(l, func(h int) bool { return h < -maxHeight || h > maxHeight })
}

// canBeMean reports whether a ratio is within the bounds of means, in lowest
// terms or not.
func canBeMean(n int, mean api.Ratio) bool {
	return 1 <= mean.D && mean.D <= n && -maxWorth*n <= mean.N && mean.N <= maxWorth*n
}
