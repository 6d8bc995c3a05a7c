package bed

import (
	"slices"

	"sedge/api"
)

// Far returns for each square of a map the length of the shortest way from a
// square, -1 if there is none.
func Far(m api.Map, from int) ([]int, api.Errno) {
	if !Valid(m) {
		return nil, api.ErrMap
	}
	if !dry(m, from) {
		return nil, api.ErrArg
	}
	return lengths(m, from), api.OK
}

// Way returns a shortest way between two squares of a map: of several the one
// that comes first by its indexes.
func Way(m api.Map, from, to int) ([]int, api.Errno) {
	if !Valid(m) {
		return nil, api.ErrMap
	}
	if !dry(m, from) || !dry(m, to) {
		return nil, api.ErrArg
	}
	left := lengths(m, to)
	if left[from] == none {
		return nil, api.ErrNone
	}
	way := []int{from}
	at := from
	for range left[from] {
		at = closer(m, left, at)
		way = append(way, at)
	}
	return way, api.OK
}

// IsWay reports whether a list is a way between its first and its last square.
func IsWay(m api.Map, l []int) (bool, api.Errno) {
	if !Valid(m) {
		return false, api.ErrMap
	}
	for i, at := range l {
		if !dry(m, at) || i > 0 && !areNeighbours(m, l[i-1], at) {
			return false, api.OK
		}
	}
	return len(l) > 0, api.OK
}

// dry reports whether a way may have a square: there is one, without water.
func dry(m api.Map, at int) bool {
	return 0 <= at && at < len(m.Squares) && m.Squares[at] != api.Water
}

func areNeighbours(m api.Map, a, b int) bool {
	for near := range neighbours(m, a) {
		if near == b {
			return true
		}
	}
	return false
}

// lengths returns for each square the length of the shortest way from a
// square. Squares are looked at in the order of their lengths, so that the
// first length of each one is its least.
func lengths(m api.Map, from int) []int {
	out := slices.Repeat([]int{none}, m.W*m.H)
	out[from] = 0
	ahead := []int{from}
	for len(ahead) > 0 {
		at := ahead[0]
		ahead = ahead[1:]
		for near := range neighbours(m, at) {
			if dry(m, near) && out[near] == none {
				out[near] = out[at] + 1
				ahead = append(ahead, near)
			}
		}
	}
	return out
}

// closer returns the first neighbour that is a step nearer to the end of a
// way, given how much of it is left from each square. There is one before the
// end.
func closer(m api.Map, left []int, at int) int {
	for near := range neighbours(m, at) {
		if left[near] == left[at]-1 {
			return near
		}
	}
	return at
}
