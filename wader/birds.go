package wader

import (
	"slices"

	"sedge/api"
)

// none stands for no sighting.
const none = -1

// Fewest returns the least number of birds that explain a watch.
func Fewest(l []api.Sighting, speed int) (int, api.Errno) {
	birds, err := Birds(l, speed)
	return len(birds), err
}

// Birds returns the fewest birds that explain a watch.
func Birds(l []api.Sighting, speed int) ([][]int, api.Errno) {
	if !Valid(l, speed) {
		return nil, api.ErrWatch
	}
	before := watch{l, speed}.matched()
	var out [][]int
	for i, first := range before {
		if first == none {
			out = append(out, bird(before, i))
		}
	}
	return out, api.OK
}

// Explain reports whether birds explain a watch.
func Explain(l []api.Sighting, speed int, birds [][]int) (bool, api.Errno) {
	if !Valid(l, speed) {
		return false, api.ErrWatch
	}
	w := watch{l, speed}
	return w.divide(birds, w.isBird), api.OK
}

// Apart returns the most sightings that are apart.
func Apart(l []api.Sighting, speed int) ([]int, api.Errno) {
	if !Valid(l, speed) {
		return nil, api.ErrWatch
	}
	return watch{l, speed}.apart(), api.OK
}

// AreApart reports whether sightings are apart.
func AreApart(l []api.Sighting, speed int, some []int) (bool, api.Errno) {
	if !Valid(l, speed) {
		return false, api.ErrWatch
	}
	return watch{l, speed}.areApart(some), api.OK
}

// matched returns a matching of as many sightings as can be, each with another
// one to which it leads: for each sighting the one before it in its bird, none
// for the first one. Each sighting that is matched makes one bird less, as what
// leads on leads also past the sightings between.
func (w watch) matched() []int {
	before := slices.Repeat([]int{none}, len(w.sightings))
	for i := range w.sightings {
		before = w.withOne(before, i)
	}
	return before
}

// withOne returns a matching in which a sighting leads to one, too, or the same
// matching again if that cannot be. Those that led to one before still do, maybe
// to another one.
func (w watch) withOne(before []int, i int) []int {
	out := slices.Clone(before)
	tried := make([]bool, len(out))
	var walk func(i int) bool
	walk = func(i int) bool {
		for k := range out {
			if tried[k] || !w.leads(i, k) {
				continue
			}
			tried[k] = true
			if out[k] == none || walk(out[k]) {
				out[k] = i
				return true
			}
		}
		return false
	}
	walk(i)
	return out
}

// bird returns the bird of a matching that begins with a sighting.
func bird(before []int, first int) []int {
	var out []int
	for i := first; i != none; i = slices.Index(before, i) {
		out = append(out, i)
	}
	return out
}

// apart returns as many sightings that are apart as there are birds.
//
// The last sighting of each bird is open. An open sighting cuts off all that it
// leads to, and opens what is just before each of these in its bird. (There is
// one before it: otherwise one more could be matched.) Those that are open and
// not cut off are apart, then, and the first open one of each bird is one of
// them, as what is before one that is cut off is open, too.
func (w watch) apart() []int {
	before := w.matched()
	open, cut := make([]bool, len(before)), make([]bool, len(before))
	var walk func(i int)
	walk = func(i int) {
		open[i] = true
		for k := range before {
			if !cut[k] && w.leads(i, k) {
				cut[k] = true
				walk(before[k])
			}
		}
	}
	var out []int
	for i := range before {
		if !slices.Contains(before, i) {
			walk(i)
		}
	}
	for i := range before {
		if open[i] && !cut[i] {
			out = append(out, i)
		}
	}
	return out
}
