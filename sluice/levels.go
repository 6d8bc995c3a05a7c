package sluice

import (
	"container/heap"
	"slices"

	"sedge/api"
)

// Levels returns the level of each square of a fen.
func Levels(f api.Fen) ([]int, api.Errno) {
	if !Valid(f) {
		return nil, api.ErrFen
	}
	return levelsOf(f), api.OK
}

// Depths returns the depth of each square of a fen.
func Depths(f api.Fen) ([]int, api.Errno) {
	if !Valid(f) {
		return nil, api.ErrFen
	}
	depths := levelsOf(f)
	for at, height := range f.Heights {
		depths[at] -= height
	}
	return depths, api.OK
}

// Volume returns the sum of all depths of a fen.
func Volume(f api.Fen) (int, api.Errno) {
	depths, err := Depths(f)
	sum := 0
	for _, depth := range depths {
		sum += depth
	}
	return sum, err
}

// Ponds returns for each square of a fen the number of its pond, -1 if its
// depth is 0.
func Ponds(f api.Fen) ([]int, api.Errno) {
	if !Valid(f) {
		return nil, api.ErrFen
	}
	levels := levelsOf(f)
	numbers := slices.Repeat([]int{none}, f.W*f.H)
	all := 0
	for first, level := range levels {
		if f.Heights[first] == level || numbers[first] != none {
			continue
		}
		pond := reached(f, first, func(at int) bool {
			return levels[at] == level && f.Heights[at] < level
		})
		for _, at := range pond {
			numbers[at] = all
		}
		all++
	}
	return numbers, api.OK
}

// outlet is a square with the height of a way out from it.
type outlet struct {
	at, height int
}

// outlets is a heap with the lowest way out on top.
type outlets []outlet

func (o outlets) Len() int           { return len(o) }
func (o outlets) Less(i, k int) bool { return o[i].height < o[k].height }
func (o outlets) Swap(i, k int)      { o[i], o[k] = o[k], o[i] }

// Push appends an outlet, as container/heap asks for.
func (o *outlets) Push(x any) {
	*o = append(*o, x.(outlet))
}

// Pop takes the last outlet away, as container/heap asks for.
func (o *outlets) Pop() any {
	last := len(*o) - 1
	out := (*o)[last]
	*o = (*o)[:last]
	return out
}

// levelsOf returns the level of each square. A way out that goes on to a
// neighbour gets no lower, so that the first one that leaves the heap for a
// square is the lowest one from it.
func levelsOf(f api.Fen) []int {
	out := slices.Repeat([]int{none}, f.W*f.H)
	var open outlets
	extend := func(at, height int) {
		heap.Push(&open, outlet{at, max(height, f.Heights[at])})
	}
	for _, s := range f.Sluices {
		extend(s.At, s.Sill)
	}
	for len(open) > 0 {
		lowest := heap.Pop(&open).(outlet)
		if out[lowest.at] != none {
			continue
		}
		out[lowest.at] = lowest.height
		for _, near := range neighbours(f.W, f.H, lowest.at) {
			extend(near, lowest.height)
		}
	}
	return out
}
