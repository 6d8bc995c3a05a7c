package wader

import "sedge/api"

// Longest returns the bird with the most sightings, of several the list that
// comes first.
func Longest(l []api.Sighting, speed int) ([]int, api.Errno) {
	if !Valid(l, speed) {
		return nil, api.ErrWatch
	}
	return watch{l, speed}.longest(), api.OK
}

// Rounds returns rounds, each with the sightings to which only those of the
// rounds ahead of it can lead.
func Rounds(l []api.Sighting, speed int) ([][]int, api.Errno) {
	if !Valid(l, speed) {
		return nil, api.ErrWatch
	}
	w := watch{l, speed}
	lengths := w.lengths(w.follows)
	out := make([][]int, greatest(lengths))
	for i, n := range lengths {
		out[n-1] = append(out[n-1], i)
	}
	return out, api.OK
}

// AreRounds reports whether lists are rounds.
func AreRounds(l []api.Sighting, speed int, rounds [][]int) (bool, api.Errno) {
	if !Valid(l, speed) {
		return false, api.ErrWatch
	}
	w := watch{l, speed}
	return w.divide(rounds, w.areApart), api.OK
}

// longest returns the first of the birds with the most sightings: each time the
// first sighting behind which as many more can come as are left.
func (w watch) longest() []int {
	lengths := w.lengths(w.leads)
	var out []int
	for left := greatest(lengths); left > 0; left-- {
		for i, n := range lengths {
			if n == left && (len(out) == 0 || w.leads(out[len(out)-1], i)) {
				out = append(out, i)
				break
			}
		}
	}
	return out
}

// lengths returns for each sighting the most sightings of a bird that begins
// with it, if on tells which one leads to which, or of one that ends with it, if
// on tells which one follows which.
func (w watch) lengths(on func(i, k int) bool) []int {
	out := make([]int, len(w.sightings))
	var walk func(i int) int
	walk = func(i int) int {
		if out[i] > 0 {
			return out[i]
		}
		most := 0
		for k := range out {
			if on(i, k) {
				most = max(most, walk(k))
			}
		}
		out[i] = most + 1
		return out[i]
	}
	for i := range out {
		walk(i)
	}
	return out
}

// greatest returns the greatest of some lengths, 0 if there are none.
func greatest(lengths []int) int {
	out := 0
	for _, n := range lengths {
		out = max(out, n)
	}
	return out
}
