package burn

import (
	"slices"

	"sedge/api"
)

// place is a side of a square in a search: courses come in on the one and go
// out on the other. The way across takes one course alone, which keeps the
// courses apart.
type place struct {
	at  int
	out bool
}

// link leads from a place to a next one.
type link struct {
	from, to place
}

// paths are courses to a hide, as the links that they take, and the places that
// the last search for one more of them found, each with the one before it.
type paths struct {
	fire
	hide  int
	taken map[link]bool
	found map[place]place
}

// spread lays as many courses to a hide as can be apart.
func spread(f api.Field, w api.Wind, starts []int, hide int) (paths, api.Errno) {
	if err := checkHide(f, w, starts, hide); err != api.OK {
		return paths{}, err
	}
	p := paths{fire: fire{f, w, starts}, hide: hide, taken: map[link]bool{}}
	for near := range p.around(hide) {
		if slices.Contains(starts, near) {
			return paths{}, api.ErrNone
		}
	}
	for p.search() {
		p.lay()
	}
	return p, api.OK
}

// search looks for one more course, and reports whether there is one.
func (p *paths) search() bool {
	p.found = map[place]place{}
	var ahead []place
	for _, start := range p.starts {
		at := place{start, true}
		p.found[at] = at // nothing is before it
		ahead = append(ahead, at)
	}
	for len(ahead) > 0 {
		at := ahead[0]
		ahead = ahead[1:]
		for _, next := range p.onward(at) {
			if !p.has(next) {
				p.found[next] = at
				ahead = append(ahead, next)
			}
		}
	}
	return p.has(place{p.hide, false})
}

// onward returns the places to which a search goes from a place: on as a course
// goes, or back along a link that a course takes, which is then led elsewhere.
func (p *paths) onward(from place) []place {
	var next []place
	add := func(to place, on bool) {
		if on || p.taken[link{to, from}] {
			next = append(next, to)
		}
	}
	across := place{from.at, !from.out}
	add(across, !from.out && !p.taken[link{from, across}])
	for near := range p.around(from.at) {
		add(place{near, !from.out}, from.out && !slices.Contains(p.starts, near))
	}
	return next
}

// has reports whether the last search found a place.
func (p *paths) has(at place) bool {
	_, is := p.found[at]
	return is
}

// lay lays the course that the last search found. Where it goes back along a
// link, this link is taken no more.
func (p *paths) lay() {
	at := place{p.hide, false}
	for p.found[at] != at {
		before := p.found[at]
		if p.taken[link{at, before}] {
			delete(p.taken, link{at, before})
		} else {
			p.taken[link{before, at}] = true
		}
		at = before
	}
}

// courses returns the courses that are laid.
func (p *paths) courses() [][]int {
	var out [][]int
	for _, start := range p.starts {
		for _, at := range p.after(start) {
			course := []int{start, at}
			for at != p.hide {
				at = p.after(at)[0]
				course = append(course, at)
			}
			out = append(out, course)
		}
	}
	return out
}

// after returns the squares to which courses go on from a square.
func (p *paths) after(at int) []int {
	var out []int
	for near := range p.around(at) {
		if p.taken[link{place{at, true}, place{near, false}}] {
			out = append(out, near)
		}
	}
	return out
}

// fewest returns the squares that the last search, which found no more course,
// did not get across: each of them is on a course of its own, so that no break
// has fewer.
func (p *paths) fewest() []int {
	var out []int
	for at := range p.Fuel {
		if p.has(place{at, false}) && !p.has(place{at, true}) {
			out = append(out, at)
		}
	}
	return out
}
