package bed

import "sedge/api"

// Spread returns the map in which each scrub or path with at least two
// neighbours of reed has become reed.
func Spread(m api.Map) (api.Map, api.Errno) {
	if !Valid(m) {
		return api.Map{}, api.ErrMap
	}
	return draw(m.W, m.H, func(x, y int) int {
		at := y*m.W + x
		kind := m.Squares[at]
		if (kind == api.Scrub || kind == api.Path) && reedNear(m, at) >= 2 {
			return api.Reed
		}
		return kind
	}), api.OK
}

// Mow returns the map in which each reed with at most one neighbour of reed
// has become path.
func Mow(m api.Map) (api.Map, api.Errno) {
	if !Valid(m) {
		return api.Map{}, api.ErrMap
	}
	return draw(m.W, m.H, func(x, y int) int {
		at := y*m.W + x
		if m.Squares[at] == api.Reed && reedNear(m, at) <= 1 {
			return api.Path
		}
		return m.Squares[at]
	}), api.OK
}

// Flip returns a map mirrored left to right.
func Flip(m api.Map) (api.Map, api.Errno) {
	if !Valid(m) {
		return api.Map{}, api.ErrMap
	}
	return draw(m.W, m.H, func(x, y int) int {
		return m.Squares[y*m.W+m.W-1-x]
	}), api.OK
}

// Turn returns a map turned by a quarter, clockwise.
func Turn(m api.Map) (api.Map, api.Errno) {
	if !Valid(m) {
		return api.Map{}, api.ErrMap
	}
	return draw(m.H, m.W, func(x, y int) int {
		return m.Squares[(m.H-1-x)*m.W+y]
	}), api.OK
}

// draw returns a new map whose squares have the kinds that are told.
func draw(w, h int, kind func(x, y int) int) api.Map {
	m := api.Map{W: w, H: h, Squares: make([]int, w*h)}
	for at := range w * h {
		m.Squares[at] = kind(at%w, at/w)
	}
	return m
}
