package wale

import (
	"maps"
	"math"
	"slices"

	"sedge/api"
)

const (
	maxYears = 100
	none     = math.MinInt // the worth where there is no plan
)

// Best returns the greatest worth of a plan from a state with so many changes.
func Best(n int, l []api.Change, start, years int) (int, api.Errno) {
	if err := checkYears(n, l, start, years); err != api.OK {
		return 0, err
	}
	worth := rotation{n, l}.worths(years)[years][start]
	if worth == none {
		return 0, api.ErrNone
	}
	return worth, api.OK
}

// Plan returns a plan from a state with so many changes and the greatest worth,
// of several the one that comes first.
func Plan(n int, l []api.Change, start, years int) ([]int, api.Errno) {
	if err := checkYears(n, l, start, years); err != api.OK {
		return nil, err
	}
	plan, is := rotation{n, l}.plan(start, years)
	if !is {
		return nil, api.ErrNone
	}
	return plan, api.OK
}

// After returns the states in which plans from a state with so many changes
// end, in ascending order.
func After(n int, l []api.Change, start, years int) ([]int, api.Errno) {
	if err := checkYears(n, l, start, years); err != api.OK {
		return nil, err
	}
	ends := map[int]bool{start: true}
	for range years {
		next := map[int]bool{}
		for _, c := range l {
			if ends[c.From] {
				next[c.To] = true
			}
		}
		ends = next
	}
	return slices.Sorted(maps.Keys(ends)), api.OK
}

// Ends returns the states from which no plan goes on for ever, in ascending
// order.
func Ends(n int, l []api.Change) ([]int, api.Errno) {
	if !Valid(n, l) {
		return nil, api.ErrRotation
	}
	var out []int
	for state, worth := range (rotation{n, l}).worths(n)[n] {
		if worth == none {
			out = append(out, state)
		}
	}
	return out, api.OK
}

// checkYears returns the first error of a rotation, a state and a number of
// years.
func checkYears(n int, l []api.Change, start, years int) api.Errno {
	if !Valid(n, l) {
		return api.ErrRotation
	}
	if !isState(n, start) || years < 0 || years > maxYears {
		return api.ErrArg
	}
	return api.OK
}

// worths returns, for each number of years up to a greatest one and for each
// state, the greatest worth of a plan from it with so many changes, none if
// there is no such plan.
func (r rotation) worths(years int) [][]int {
	out := [][]int{make([]int, r.n)}
	for year := range years {
		next := slices.Repeat([]int{none}, r.n)
		for _, c := range r.changes {
			if rest := out[year][c.To]; rest != none {
				next[c.From] = max(next[c.From], c.Worth+rest)
			}
		}
		out = append(out, next)
	}
	return out
}

// plan returns the first of the plans from a state with so many changes that
// have the greatest worth, and whether there is one.
func (r rotation) plan(start, years int) ([]int, bool) {
	worths := r.worths(years)
	if worths[years][start] == none {
		return nil, false
	}
	var out []int
	at := start
	for year := range years {
		now, next := worths[years-year], worths[years-year-1]
		i := slices.IndexFunc(r.changes, func(c api.Change) bool {
			return c.From == at && next[c.To] != none && c.Worth+next[c.To] == now[at]
		})
		out = append(out, i)
		at = r.changes[i].To
	}
	return out, true
}
