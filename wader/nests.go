package wader

import (
	"slices"

	"sedge/api"
)

const (
	maxNests = 50
	maxReach = 100
)

// Closed reports whether a square is closed on a day.
func Closed(l []api.Nest, at api.XY, day int) (bool, api.Errno) {
	if err := checkNests(l, at, day, day); err != api.OK {
		return false, err
	}
	return closed(l, at, day), api.OK
}

// Days returns how many of the days of a span a square is closed.
func Days(l []api.Nest, at api.XY, from, to int) (int, api.Errno) {
	if err := checkNests(l, at, from, to); err != api.OK {
		return 0, err
	}
	count := 0
	for day := from; day <= to; day++ {
		if closed(l, at, day) {
			count++
		}
	}
	return count, api.OK
}

// Opens returns the first day from a day on, on which a square is not closed. No
// nest closes it behind the last day.
func Opens(l []api.Nest, at api.XY, day int) (int, api.Errno) {
	if err := checkNests(l, at, day, day); err != api.OK {
		return 0, err
	}
	for closed(l, at, day) {
		day++
	}
	return day, api.OK
}

// checkNests returns the first error of nests, a square and a span of days.
func checkNests(l []api.Nest, at api.XY, from, to int) api.Errno {
	if !areNests(l) {
		return api.ErrNests
	}
	if !isPlace(at.X, at.Y) || !isTime(from) || !isTime(to) || from > to {
		return api.ErrArg
	}
	return api.OK
}

func areNests(l []api.Nest) bool {
	if len(l) > maxNests {
		return false
	}
	return !slices.ContainsFunc(l, func(n api.Nest) bool {
		return !isPlace(n.X, n.Y) || !isTime(n.From) || !isTime(n.To) || n.From > n.To || n.R < 0 || n.R > maxReach
	})
}

func closed(l []api.Nest, at api.XY, day int) bool {
	return slices.ContainsFunc(l, func(n api.Nest) bool {
		return n.From <= day && day <= n.To && away(n.X, n.Y, at.X, at.Y) <= n.R
	})
}
