package sluice

import (
	"slices"

	"sedge/api"
)

// Ridge returns the squares to which one can walk from a square of a fen over
// squares that are less high than its level, the square itself among them;
// only the square itself if its depth is 0.
func Ridge(f api.Fen, at int) ([]int, api.Errno) {
	if !Valid(f) {
		return nil, api.ErrFen
	}
	if !isSquare(f, at) {
		return nil, api.ErrArg
	}
	level := levelsOf(f)[at]
	if f.Heights[at] == level {
		return []int{at}, api.OK
	}
	return reached(f, at, func(near int) bool { return f.Heights[near] < level }), api.OK
}

// Holds reports whether a list of squares of a fen is a ridge for a square and
// a number.
func Holds(f api.Fen, at, n int, ridge []int) (bool, api.Errno) {
	if !Valid(f) {
		return false, api.ErrFen
	}
	if !isSquare(f, at) || n < 0 || n > api.MaxHeight || !ascends(f, ridge) {
		return false, api.ErrArg
	}
	if !slices.Contains(ridge, at) {
		return false, api.OK
	}
	return f.Heights[at] >= n || keeps(f, n, ridge), api.OK
}

// ascends reports whether a list has squares of a fen in strictly ascending
// order.
func ascends(f api.Fen, l []int) bool {
	for i, at := range l {
		if !isSquare(f, at) || i > 0 && at <= l[i-1] {
			return false
		}
	}
	return true
}

// keeps reports whether water up to a height finds no sluice in a set of
// squares and no way out of the set.
func keeps(f api.Fen, n int, ridge []int) bool {
	sills := leastSills(f)
	for _, at := range ridge {
		if f.Heights[at] >= n {
			continue
		}
		if sills[at] < n {
			return false
		}
		for _, near := range neighbours(f.W, f.H, at) {
			if f.Heights[near] < n && !slices.Contains(ridge, near) {
				return false
			}
		}
	}
	return true
}
