package sluice

import (
	"slices"

	"sedge/api"
)

const (
	brim   = 4      // so many buckets run over at once, one for each side of a square
	maxRun = 100000 // squares in a list for After
)

// Settle lets squares run over until the buckets are settled. It returns these,
// and how often each square ran over.
func Settle(w, h int, b []int) (settled []int, over []int, err api.Errno) {
	if !areBuckets(w, h, b) {
		return nil, nil, api.ErrBuckets
	}
	settled, over = settle(w, h, b)
	return settled, over, api.OK
}

// After returns the buckets behind a list of squares that run over, one after
// the other.
func After(w, h int, b, l []int) ([]int, api.Errno) {
	if !areBuckets(w, h, b) {
		return nil, api.ErrBuckets
	}
	if len(l) > maxRun || slices.ContainsFunc(l, func(at int) bool { return at < 0 || at >= len(b) }) {
		return nil, api.ErrArg
	}
	out := slices.Clone(b)
	for _, at := range l {
		if out[at] < brim {
			return nil, api.ErrNone
		}
		runOver(w, h, out, at, 1)
	}
	return out, api.OK
}

// Lost returns how many buckets go over the rim of the map until all are
// settled.
func Lost(w, h int, b []int) (int, api.Errno) {
	if !areBuckets(w, h, b) {
		return 0, api.ErrBuckets
	}
	settled, _ := settle(w, h, b)
	lost := 0
	for at := range b {
		lost += b[at] - settled[at]
	}
	return lost, api.OK
}

func areBuckets(w, h int, b []int) bool {
	return areSides(w, h) && areNumbers(b, w*h, api.MaxBucket)
}

// settle goes over the squares again and again. A square runs over at once as
// often as it may, as the order plays no part.
func settle(w, h int, b []int) (settled, over []int) {
	settled = slices.Clone(b)
	over = make([]int, len(b))
	for moved := true; moved; {
		moved = false
		for at := range settled {
			times := settled[at] / brim
			if times > 0 {
				runOver(w, h, settled, at, times)
				over[at] += times
				moved = true
			}
		}
	}
	return settled, over
}

// runOver lets a square run over so many times.
func runOver(w, h int, b []int, at, times int) {
	b[at] -= brim * times
	for _, near := range neighbours(w, h, at) {
		b[near] += times
	}
}
