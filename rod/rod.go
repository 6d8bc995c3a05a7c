// Package rod is layer 1: areas and lengths with their texts, bundles by
// girth, and parcels whose corners are posts on whole rods. See
// shared/doc/01-rod.md.
package rod

import (
	"sedge/api"
	"sedge/ratio"
)

// Valid reports whether a list of posts is a parcel: as many corners as there
// may be, all within range, and sides that meet in their common corners alone.
func Valid(p []api.XY) bool {
	if len(p) < 3 || len(p) > api.MaxPosts || !allInRange(p) {
		return false
	}
	return cornersDiffer(p) && noSideTurnsBack(p) && sidesKeepApart(p)
}

// Area returns twice the area of a parcel in perches, which is a whole number.
func Area(p []api.XY) (int, api.Errno) {
	if !Valid(p) {
		return 0, api.ErrParcel
	}
	return abs(signedArea(p)), api.OK
}

// Border returns how many posts are on the border of a parcel.
func Border(p []api.XY) (int, api.Errno) {
	if !Valid(p) {
		return 0, api.ErrParcel
	}
	return borderPosts(p), api.OK
}

// Inside returns how many posts are inside a parcel, by Pick's theorem.
func Inside(p []api.XY) (int, api.Errno) {
	if !Valid(p) {
		return 0, api.ErrParcel
	}
	return (abs(signedArea(p)) - borderPosts(p) + 2) / 2, api.OK
}

// Where returns 1 for a post inside a parcel, 0 on its border, -1 outside.
func Where(p []api.XY, at api.XY) (int, api.Errno) {
	if !Valid(p) {
		return 0, api.ErrParcel
	}
	// Farther posts are outside, and products of their coordinates could overflow.
	if !inRange(at) {
		return -1, api.OK
	}
	if onBorder(p, at) {
		return 0, api.OK
	}
	if encloses(p, at) {
		return 1, api.OK
	}
	return -1, api.OK
}

// Left reports whether a parcel lies on the left of its sides.
func Left(p []api.XY) (bool, api.Errno) {
	if !Valid(p) {
		return false, api.ErrParcel
	}
	return signedArea(p) > 0, api.OK
}

// Straight returns a parcel without its straight corners.
func Straight(p []api.XY) ([]api.XY, api.Errno) {
	if !Valid(p) {
		return nil, api.ErrParcel
	}
	var out []api.XY
	for i := range len(p) {
		if bend(p, i) != 0 {
			out = append(out, p[i])
		}
	}
	return out, api.OK
}

// Convex reports whether a parcel bends to one side alone.
func Convex(p []api.XY) (bool, api.Errno) {
	if !Valid(p) {
		return false, api.ErrParcel
	}
	left, right := false, false
	for i := range len(p) {
		left = left || bend(p, i) > 0
		right = right || bend(p, i) < 0
	}
	return !(left && right), api.OK
}

func inRange(a api.XY) bool {
	return between(a.X, -api.MaxRod, api.MaxRod) && between(a.Y, -api.MaxRod, api.MaxRod)
}

func allInRange(l []api.XY) bool {
	for _, a := range l {
		if !inRange(a) {
			return false
		}
	}
	return true
}

func cornersDiffer(p []api.XY) bool {
	for k := range len(p) {
		for i := range k {
			if p[i] == p[k] {
				return false
			}
		}
	}
	return true
}

// noSideTurnsBack reports whether every two neighbouring sides have their
// corner alone in common: they have more if they lie on one line and leave the
// corner in the same direction.
func noSideTurnsBack(p []api.XY) bool {
	for i := range len(p) {
		before, at, next := around(p, i)
		if cross(at, before, next) == 0 && dot(at, before, next) > 0 {
			return false
		}
	}
	return true
}

// sidesKeepApart reports whether no two sides that are not neighbours meet.
func sidesKeepApart(p []api.XY) bool {
	n := len(p)
	for k := range n {
		for i := range k {
			if !neighbours(n, i, k) && sidesMeet(p[i], p[i+1], p[k], p[(k+1)%n]) {
				return false
			}
		}
	}
	return true
}

// neighbours reports whether of n corners, or sides, round about i and k follow
// each other, with i < k.
func neighbours(n, i, k int) bool {
	return k == i+1 || i == 0 && k == n-1
}

// signedArea is twice the area, below 0 if the parcel lies on the right.
func signedArea(p []api.XY) int {
	sum := 0
	for i := range len(p) {
		sum += cross(api.XY{}, p[i], p[(i+1)%len(p)])
	}
	return sum
}

func borderPosts(p []api.XY) int {
	sum := 0
	for i := range len(p) {
		a, b := p[i], p[(i+1)%len(p)]
		sum += ratio.Divisor(b.X-a.X, b.Y-a.Y)
	}
	return sum
}

func onBorder(p []api.XY, at api.XY) bool {
	for i := range len(p) {
		if onSide(p[i], p[(i+1)%len(p)], at) {
			return true
		}
	}
	return false
}

// encloses counts the sides that a ray from the post to the right crosses. A
// side has its lower end but not its upper one, so that a ray through a corner
// counts it once where the border goes on upwards and evenly where it turns.
func encloses(p []api.XY, at api.XY) bool {
	in := false
	for i := range len(p) {
		low, high := p[i], p[(i+1)%len(p)]
		if low.Y > high.Y {
			low, high = high, low
		}
		if low.Y <= at.Y && at.Y < high.Y && cross(low, high, at) > 0 {
			in = !in
		}
	}
	return in
}

// bend is above 0 if the border turns left at the corner i, below 0 if it
// turns right, and 0 if the corner is straight.
func bend(p []api.XY, i int) int {
	before, at, next := around(p, i)
	return cross(before, at, next)
}

// around returns the corner i with the ones before and behind it.
func around(p []api.XY, i int) (before, at, next api.XY) {
	n := len(p)
	return p[(i+n-1)%n], p[i], p[(i+1)%n]
}
