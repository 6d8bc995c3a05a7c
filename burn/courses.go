package burn

import (
	"slices"

	"sedge/api"
)

// Course returns a course to a square that takes its time, of several the one
// that comes first by its indexes.
func Course(f api.Field, w api.Wind, starts []int, to int) ([]int, api.Errno) {
	if !Valid(f, w, starts) {
		return nil, api.ErrFire
	}
	if !isSquare(f, to) {
		return nil, api.ErrArg
	}
	x := fire{f, w, starts}
	time := x.times()[to]
	if time == none {
		return nil, api.ErrNone
	}
	return x.course(to, time), api.OK
}

// IsCourse reports whether a list is a course.
func IsCourse(f api.Field, w api.Wind, starts, course []int) (bool, api.Errno) {
	if !Valid(f, w, starts) {
		return false, api.ErrFire
	}
	return fire{f, w, starts}.isCourse(course), api.OK
}

// Takes returns the minutes that a course takes.
func Takes(f api.Field, w api.Wind, starts, course []int) (int, api.Errno) {
	if !Valid(f, w, starts) {
		return 0, api.ErrFire
	}
	x := fire{f, w, starts}
	if !x.isCourse(course) {
		return 0, api.ErrNone
	}
	sum := 0
	for i, at := range course[1:] {
		direction, _ := x.direction(course[i], at)
		sum += x.takes(course[i], direction)
	}
	return sum, api.OK
}

// course returns the first of the courses to a square that take its time. It
// goes on only to where the minutes that are left become fewer by those of the
// step.
func (x fire) course(to, time int) []int {
	left := x.least([]int{to}, func(at, near, direction int) int { return x.takes(near, opposite(direction)) })
	at := slices.Min(slices.DeleteFunc(slices.Clone(x.starts), func(start int) bool { return left[start] != time }))
	out := []int{at}
	for at != to {
		at = x.next(at, left)
		out = append(out, at)
	}
	return out
}

// next returns the first square to which a quickest course goes on from a
// square.
func (x fire) next(at int, left []int) int {
	for near, direction := range x.around(at) {
		if left[near]+x.takes(at, direction) == left[at] {
			return near
		}
	}
	return none
}

// isCourse reports whether a list has squares with fuel, at least one, each
// once and each next one a neighbour, of which the first one alone is a start.
func (x fire) isCourse(l []int) bool {
	seen := map[int]bool{}
	for i, at := range l {
		if !burns(x.Field, at) || seen[at] || slices.Contains(x.starts, at) != (i == 0) {
			return false
		}
		if i > 0 && !x.touch(l[i-1], at) {
			return false
		}
		seen[at] = true
	}
	return len(l) > 0
}

// direction returns the direction of the step from one square to another one,
// and whether there is such a step.
func (x fire) direction(from, to int) (int, bool) {
	for near, direction := range x.around(from) {
		if near == to {
			return direction, true
		}
	}
	return 0, false
}

func (x fire) touch(a, b int) bool {
	_, is := x.direction(a, b)
	return is
}

func opposite(direction int) int {
	return (direction + 2) % len(steps)
}
