package dole

import (
	"slices"

	"sedge/api"
)

// Envies returns all pairs of a commoner and one that it envies.
func Envies(v [][]int, share []int) ([][2]int, api.Errno) {
	if e := check(v, share); e != api.OK {
		return nil, e
	}
	s := sharing{v, share}
	var out [][2]int
	for i := range v {
		for k := range v {
			if s.envies(i, k) {
				out = append(out, [2]int{i, k})
			}
		}
	}
	return out, api.OK
}

// Fair reports whether a share-out is fair but for one strip.
func Fair(v [][]int, share []int) (bool, api.Errno) {
	if e := check(v, share); e != api.OK {
		return false, e
	}
	s := sharing{v, share}
	for i := range v {
		for k := range v {
			if s.envies(i, k) && !s.butForOne(i, k) {
				return false, api.OK
			}
		}
	}
	return true, api.OK
}

// Better reports whether a share-out is worth at least as much as another one to
// every commoner, and more to one.
func Better(v [][]int, a, b []int) (bool, api.Errno) {
	for _, share := range [][]int{a, b} {
		if e := check(v, share); e != api.OK {
			return false, e
		}
	}
	is, was := sharing{v, a}.worths(), sharing{v, b}.worths()
	more := false
	for c := range v {
		if is[c] < was[c] {
			return false, api.OK
		}
		more = more || is[c] > was[c]
	}
	return more, api.OK
}

// Circle returns the circle of envy that comes first, an empty list if there is
// none.
func Circle(v [][]int, share []int) ([]int, api.Errno) {
	if e := check(v, share); e != api.OK {
		return nil, e
	}
	return sharing{v, share}.circle(), api.OK
}

// Turn returns the share-out in which each one of a circle of envy has got the
// strips of the next one.
func Turn(v [][]int, share, circle []int) ([]int, api.Errno) {
	if e := check(v, share); e != api.OK {
		return nil, e
	}
	s := sharing{v, share}
	if !s.isCircle(circle) {
		return nil, api.ErrArg
	}
	return s.turned(circle), api.OK
}

func (s sharing) envies(i, k int) bool {
	return s.worth(k, i) > s.worth(i, i)
}

// butForOne reports whether a commoner would not envy another one without one of
// the other one's strips.
func (s sharing) butForOne(i, k int) bool {
	own, other := s.worth(i, i), s.worth(k, i)
	for strip, c := range s.share {
		if c == k && other-s.values[i][strip] <= own {
			return true
		}
	}
	return false
}

func (s sharing) circle() []int {
	for c := range s.values {
		if l := s.circleFrom([]int{c}); l != nil {
			return l
		}
	}
	return nil
}

// circleFrom returns the first circle of envy that begins with a path, nil if
// there is none. A path that is a circle itself comes ahead of those that go on.
func (s sharing) circleFrom(path []int) []int {
	first, last := path[0], path[len(path)-1]
	if s.envies(last, first) {
		return path
	}
	for next := first + 1; next < len(s.values); next++ {
		if slices.Contains(path, next) || !s.envies(last, next) {
			continue
		}
		if l := s.circleFrom(append(slices.Clone(path), next)); l != nil {
			return l
		}
	}
	return nil
}

// isCircle reports whether a list is a circle of envy. As nobody is in it twice,
// a list that is too long is left at once.
func (s sharing) isCircle(l []int) bool {
	for at, c := range l {
		if !isCommoner(s.values, c) || c < l[0] || slices.Contains(l[:at], c) {
			return false
		}
	}
	for at, c := range l {
		if !s.envies(c, l[(at+1)%len(l)]) {
			return false
		}
	}
	return len(l) > 1
}

// turned returns the share-out in which the strips of each one of a circle have
// gone to the one ahead of it, those of the first one to the last one.
func (s sharing) turned(circle []int) []int {
	out := slices.Clone(s.share)
	ahead := circle[len(circle)-1]
	for _, c := range circle {
		for strip, owner := range s.share {
			if owner == c {
				out[strip] = ahead
			}
		}
		ahead = c
	}
	return out
}
