package sluice

import (
	"slices"

	"sedge/api"
)

// Out returns a way out from a square of a fen whose height is the level of
// the square: the shortest one, of several the one that comes first by its
// indexes.
func Out(f api.Fen, at int) ([]int, api.Errno) {
	if !Valid(f) {
		return nil, api.ErrFen
	}
	if !isSquare(f, at) {
		return nil, api.ErrArg
	}
	return wayOut(f, at, levelsOf(f)[at]), api.OK
}

// Height returns the height of a way out of a fen.
func Height(f api.Fen, way []int) (int, api.Errno) {
	if !Valid(f) {
		return 0, api.ErrFen
	}
	if !isWay(f, way) {
		return 0, api.ErrArg
	}
	height := leastSills(f)[way[len(way)-1]]
	if height == closed {
		return 0, api.ErrArg
	}
	for _, at := range way {
		height = max(height, f.Heights[at])
	}
	return height, api.OK
}

// Drains returns for each square of a fen the square of the sluice to which it
// drains.
func Drains(f api.Fen) ([]int, api.Errno) {
	if !Valid(f) {
		return nil, api.ErrFen
	}
	ends := make([]int, f.W*f.H)
	for at, level := range levelsOf(f) {
		way := wayOut(f, at, level)
		ends[at] = way[len(way)-1]
	}
	return ends, api.OK
}

// wayOut returns the shortest way out from a square with a level, of several the
// first one. It is as high as the level if nothing on it is above the level.
func wayOut(f api.Fen, at, level int) []int {
	low := func(at int) bool { return f.Heights[at] <= level }
	var ends []int
	for end, sill := range leastSills(f) {
		if sill <= level && low(end) {
			ends = append(ends, end)
		}
	}
	left := steps(f, ends, low)
	way := []int{at}
	for left[at] > 0 {
		around := neighbours(f.W, f.H, at)
		next := slices.IndexFunc(around, func(near int) bool { return left[near] == left[at]-1 })
		at = around[next]
		way = append(way, at)
	}
	return way
}

// isWay reports whether a list has squares of a fen, at least one, each next
// one a neighbour.
func isWay(f api.Fen, l []int) bool {
	for i, at := range l {
		if !isSquare(f, at) || i > 0 && !slices.Contains(neighbours(f.W, f.H, at), l[i-1]) {
			return false
		}
	}
	return len(l) > 0
}

// steps returns for each square of a fen how many steps it takes from the
// nearest of some squares, over squares that may be walked on. Squares are
// looked at in the order of their steps, so that the first number of each one
// is its least.
func steps(f api.Fen, from []int, may func(at int) bool) []int {
	out := slices.Repeat([]int{none}, f.W*f.H)
	for _, at := range from {
		out[at] = 0
	}
	ahead := slices.Clone(from)
	for len(ahead) > 0 {
		at := ahead[0]
		ahead = ahead[1:]
		for _, near := range neighbours(f.W, f.H, at) {
			if out[near] == none && may(near) {
				out[near] = out[at] + 1
				ahead = append(ahead, near)
			}
		}
	}
	return out
}

// reached returns the squares to which one can walk from a square over squares
// that may be walked on, in ascending order, the square itself among them.
func reached(f api.Fen, from int, may func(at int) bool) []int {
	var out []int
	for at, taken := range steps(f, []int{from}, may) {
		if taken != none {
			out = append(out, at)
		}
	}
	return out
}
