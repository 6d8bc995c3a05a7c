package burn

import (
	"slices"

	"sedge/api"
)

const (
	maxSquares = 100 // in a list for Free
	maxCourses = 100 // in a list for AreApart
)

// Free returns the field in which some squares have no fuel.
func Free(f api.Field, squares []int) (api.Field, api.Errno) {
	if !isField(f) {
		return api.Field{}, api.ErrFire
	}
	if len(squares) > maxSquares || slices.ContainsFunc(squares, func(at int) bool { return !isSquare(f, at) }) {
		return api.Field{}, api.ErrArg
	}
	return free(f, squares), api.OK
}

// IsBreak reports whether a list is a break for a hide.
func IsBreak(f api.Field, w api.Wind, starts []int, hide int, l []int) (bool, api.Errno) {
	if err := checkHide(f, w, starts, hide); err != api.OK {
		return false, err
	}
	for i, at := range l {
		if !isHide(f, starts, at) || at == hide || i > 0 && at <= l[i-1] {
			return false, api.OK
		}
	}
	without := fire{free(f, l), w, starts}
	return without.times()[hide] == none, api.OK
}

// Break returns a break for a hide with the fewest squares.
func Break(f api.Field, w api.Wind, starts []int, hide int) ([]int, api.Errno) {
	p, err := spread(f, w, starts, hide)
	if err != api.OK {
		return nil, err
	}
	return p.fewest(), api.OK
}

// Apart returns the most courses to a hide that are apart.
func Apart(f api.Field, w api.Wind, starts []int, hide int) ([][]int, api.Errno) {
	p, err := spread(f, w, starts, hide)
	if err != api.OK {
		return nil, err
	}
	return p.courses(), api.OK
}

// AreApart reports whether lists are courses to a hide that are apart.
func AreApart(f api.Field, w api.Wind, starts []int, hide int, l [][]int) (bool, api.Errno) {
	if err := checkHide(f, w, starts, hide); err != api.OK {
		return false, err
	}
	if len(l) > maxCourses {
		return false, api.OK
	}
	x := fire{f, w, starts}
	taken := map[int]bool{}
	for _, course := range l {
		if !x.isCourse(course) || course[len(course)-1] != hide {
			return false, api.OK
		}
		for _, at := range course[1 : len(course)-1] {
			if taken[at] {
				return false, api.OK
			}
			taken[at] = true
		}
	}
	return true, api.OK
}

// checkHide returns the first error of a fire and a hide.
func checkHide(f api.Field, w api.Wind, starts []int, hide int) api.Errno {
	if !Valid(f, w, starts) {
		return api.ErrFire
	}
	if !isHide(f, starts, hide) {
		return api.ErrArg
	}
	return api.OK
}

// free returns a copy of a field in which some squares have no fuel.
func free(f api.Field, squares []int) api.Field {
	f.Fuel = slices.Clone(f.Fuel)
	for _, at := range squares {
		f.Fuel[at] = 0
	}
	return f
}
