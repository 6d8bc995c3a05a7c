package bed

import (
	"iter"
	"slices"

	"sedge/api"
)

// Beds returns for each square of a map the number of its bed, -1 if it is not
// reed.
func Beds(m api.Map) ([]int, api.Errno) {
	if !Valid(m) {
		return nil, api.ErrMap
	}
	numbers, _ := beds(m)
	return numbers, api.OK
}

// Sizes returns for each bed of a map how many squares it has.
func Sizes(m api.Map) ([]int, api.Errno) {
	if !Valid(m) {
		return nil, api.ErrMap
	}
	return sums(m, func(at int) int { return 1 }), api.OK
}

// Sides returns for each bed of a map how many sides of its squares do not lie
// between two squares of the bed.
func Sides(m api.Map) ([]int, api.Errno) {
	if !Valid(m) {
		return nil, api.ErrMap
	}
	return sums(m, func(at int) int { return 4 - reedNear(m, at) }), api.OK
}

// Pools returns how many pools of the reed a map has.
func Pools(m api.Map) (int, api.Errno) {
	if !Valid(m) {
		return 0, api.ErrMap
	}
	numbers, all := groups(m,
		func(at int) bool { return m.Squares[at] != api.Reed },
		func(at int) iter.Seq[int] { return around(m, at) })
	open := map[int]bool{}
	for at := range m.W * m.H {
		if numbers[at] != none && onRim(m, at) {
			open[numbers[at]] = true
		}
	}
	return all - len(open), api.OK
}

// Windows returns the number of reed squares of a map, less the pairs of
// neighbours among them, and with the squares of two by two among them.
func Windows(m api.Map) (int, api.Errno) {
	if !Valid(m) {
		return 0, api.ErrMap
	}
	reed := func(x, y int) bool { return within(m, x, y) && m.Squares[y*m.W+x] == api.Reed }
	sum := 0
	for at := range m.W * m.H {
		x, y := at%m.W, at/m.W
		if !reed(x, y) {
			continue
		}
		sum++
		if reed(x+1, y) {
			sum--
		}
		if reed(x, y+1) {
			sum--
		}
		if reed(x+1, y) && reed(x, y+1) && reed(x+1, y+1) {
			sum++
		}
	}
	return sum, api.OK
}

// beds numbers the beds of a map, and returns how many there are.
func beds(m api.Map) (numbers []int, all int) {
	return groups(m,
		func(at int) bool { return m.Squares[at] == api.Reed },
		func(at int) iter.Seq[int] { return neighbours(m, at) })
}

// groups numbers the sets of squares that hang together, by their first
// squares, and returns how many there are: belongs tells the squares of sets,
// next the squares with which one may hang together.
func groups(m api.Map, belongs func(at int) bool, next func(at int) iter.Seq[int]) (numbers []int, all int) {
	numbers = slices.Repeat([]int{none}, m.W*m.H)
	for first := range m.W * m.H {
		if !belongs(first) || numbers[first] != none {
			continue
		}
		numbers[first] = all
		ahead := []int{first}
		for len(ahead) > 0 {
			at := ahead[len(ahead)-1]
			ahead = ahead[:len(ahead)-1]
			for near := range next(at) {
				if belongs(near) && numbers[near] == none {
					numbers[near] = all
					ahead = append(ahead, near)
				}
			}
		}
		all++
	}
	return numbers, all
}

// sums adds up for each bed what its squares are worth.
func sums(m api.Map, worth func(at int) int) []int {
	numbers, all := beds(m)
	out := make([]int, all)
	for at := range m.W * m.H {
		if numbers[at] != none {
			out[numbers[at]] += worth(at)
		}
	}
	return out
}

func onRim(m api.Map, at int) bool {
	x, y := at%m.W, at/m.W
	return x == 0 || x == m.W-1 || y == 0 || y == m.H-1
}
