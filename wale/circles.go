package wale

import (
	"sedge/api"
	"sedge/ratio"
)

// IsCircle reports whether a list is a circle.
func IsCircle(n int, l []api.Change, circle []int) (bool, api.Errno) {
	if !Valid(n, l) {
		return false, api.ErrRotation
	}
	return rotation{n, l}.isCircle(circle), api.OK
}

// MeanOf returns the mean of a circle.
func MeanOf(n int, l []api.Change, circle []int) (api.Ratio, api.Errno) {
	if !Valid(n, l) {
		return api.Ratio{}, api.ErrRotation
	}
	r := rotation{n, l}
	if !r.isCircle(circle) {
		return api.Ratio{}, api.ErrNone
	}
	return ratio.Lowest(r.worth(circle), len(circle)), api.OK
}

// Mean returns the greatest mean of a circle.
func Mean(n int, l []api.Change) (api.Ratio, api.Errno) {
	circle, err := Circle(n, l)
	if err != api.OK {
		return api.Ratio{}, err
	}
	return MeanOf(n, l, circle)
}

// Circle returns a circle with the greatest mean.
func Circle(n int, l []api.Change) ([]int, api.Errno) {
	if !Valid(n, l) {
		return nil, api.ErrRotation
	}
	circle := rotation{n, l}.circle()
	if len(circle) == 0 {
		return nil, api.ErrNone
	}
	return circle, api.OK
}

// Share returns which part of the changes of a circle has From a state.
func Share(n int, l []api.Change, circle []int, state int) (api.Ratio, api.Errno) {
	if !Valid(n, l) {
		return api.Ratio{}, api.ErrRotation
	}
	if !isState(n, state) {
		return api.Ratio{}, api.ErrArg
	}
	if !(rotation{n, l}).isCircle(circle) {
		return api.Ratio{}, api.ErrNone
	}
	count := 0
	for _, i := range circle {
		if l[i].From == state {
			count++
		}
	}
	return ratio.Lowest(count, len(circle)), api.OK
}

// isCircle reports whether a list is a circle, which has no more than n changes
// as their From are different.
func (r rotation) isCircle(l []int) bool {
	if len(l) == 0 || !r.isChange(l[0]) {
		return false
	}
	start := r.changes[l[0]].From
	end, is := r.follow(start, l)
	if !is || end != start {
		return false
	}
	seen := map[int]bool{}
	for _, i := range l {
		seen[r.changes[i].From] = true
	}
	return len(seen) == len(l)
}

// circle returns a circle with the greatest mean, no changes if there is none.
//
// With this mean taken off each change, no circle is worth more than nothing,
// and a best one is worth just that. Take a plan that is worth the most of all
// from a state of a best circle, with fewer than n changes, and go round this
// circle ahead of it, from the state that makes them n: from there it is worth
// the most of all, too. So nothing is gained by leaving a circle out of a plan
// of n changes that is worth as much, and this circle is a best one. That is why
// one such plan from each of the states is enough to look at.
func (r rotation) circle() []int {
	var best []int
	for start := range r.n {
		plan, is := r.plan(start, r.n)
		if !is {
			continue
		}
		circle := r.first(plan)
		if len(best) == 0 || r.worth(circle)*len(best) > r.worth(best)*len(circle) {
			best = circle
		}
	}
	return best
}

// first returns the first circle in a plan: from a state to where it is seen
// again.
func (r rotation) first(plan []int) []int {
	seen := map[int]int{}
	for i, change := range plan {
		seen[r.changes[change].From] = i
		if from, again := seen[r.changes[change].To]; again {
			return plan[from : i+1]
		}
	}
	return nil
}
