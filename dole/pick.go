package dole

import "sedge/api"

// nobody is in the place of a commoner where a strip is not given out.
const nobody = -1

// Pick gives the strips out by an order: each one in turn takes what is worth
// most to it of the strips that are left.
func Pick(v [][]int, order []int) ([]int, api.Errno) {
	if !Valid(v) {
		return nil, api.ErrValues
	}
	if !giveCommoners(v, order) {
		return nil, api.ErrArg
	}
	return pick(v, order), api.OK
}

// InTurn gives the strips out by an order in which all commoners come in turn.
func InTurn(v [][]int) ([]int, api.Errno) {
	if !Valid(v) {
		return nil, api.ErrValues
	}
	order := make([]int, len(v[0]))
	for i := range order {
		order[i] = i % len(v)
	}
	return pick(v, order), api.OK
}

// Give gives out strip by strip, each one to somebody whom nobody envies, after
// all circles of envy have been turned.
func Give(v [][]int) ([]int, api.Errno) {
	if !Valid(v) {
		return nil, api.ErrValues
	}
	s := sharing{values: v}
	for range v[0] {
		for circle := s.circle(); circle != nil; circle = s.circle() {
			s.share = s.turned(circle)
		}
		s.share = append(s.share, s.unenvied())
	}
	return s.share, api.OK
}

func pick(v [][]int, order []int) []int {
	share := make([]int, len(order))
	for strip := range share {
		share[strip] = nobody
	}
	for _, c := range order {
		share[favourite(v[c], share)] = c
	}
	return share
}

// favourite returns the strip that a row values most of those that are left, of
// several the first one. One must be left.
func favourite(row, share []int) int {
	best, most := 0, -1
	for strip, n := range row {
		if share[strip] == nobody && n > most {
			best, most = strip, n
		}
	}
	return best
}

// unenvied returns the first commoner whom nobody envies. There is one, as there
// is no circle of envy: if all were envied, the way from each one to one who
// envies it would lead round a circle.
func (s sharing) unenvied() int {
	c := 0
	for s.isEnvied(c) {
		c++
	}
	return c
}

func (s sharing) isEnvied(commoner int) bool {
	for c := range s.values {
		if s.envies(c, commoner) {
			return true
		}
	}
	return false
}
