package marsh

import (
	"maps"
	"slices"

	"sedge/api"
	"sedge/bed"
	"sedge/custom"
	"sedge/dole"
	"sedge/rod"
	"sedge/thatch"
	"sedge/wader"
)

const (
	commoners = 3
	speed     = 3  // of birds
	perSquare = 90 // bundles for 100 square feet of a roof
	maxStock  = 1000000
)

// state is what deeds have made. Its lists and maps are replaced, and never changed,
// so that a copy of it stays what it was.
type state struct {
	parcels map[string][]api.XY
	land    api.Map // without squares if there is none
	customs []api.Clause
	seen    []api.Sighting
	strips  [commoners][]int
	stock   int
}

func (s state) hasMap() bool {
	return len(s.land.Squares) > 0
}

func (s state) addParcel(a args) (state, int, api.Errno) {
	if _, is := s.parcels[a.name]; is {
		return s, 0, api.ErrThere
	}
	if len(s.parcels) >= api.MaxNames {
		return s, 0, api.ErrLimit
	}
	var posts []api.XY
	for place := range slices.Chunk(a.numbers, 2) {
		posts = append(posts, api.XY{X: place[0], Y: place[1]})
	}
	s.parcels = maps.Clone(s.parcels)
	s.parcels[a.name] = posts
	area, err := rod.Area(posts)
	return s, area, err
}

func (s state) setMap(a args) (state, int, api.Errno) {
	land, err := bed.Parse(a.text)
	if err != api.OK {
		return s, 0, err
	}
	s.land = land
	beds, err := bed.Sizes(land)
	return s, len(beds), err
}

// grown returns the deed by which the map becomes another one.
func grown(by func(api.Map) (api.Map, api.Errno)) deed {
	return func(s state, _ args) (state, int, api.Errno) {
		if !s.hasMap() {
			return s, 0, api.ErrNone
		}
		s.land, _ = by(s.land) // there is no error for a map that is valid
		reed, err := bed.Count(s.land, api.Reed)
		return s, reed, err
	}
}

func (s state) addCustom(a args) (state, int, api.Errno) {
	clauses, err := custom.Parse(a.text)
	if err != api.OK {
		return s, 0, err
	}
	if len(clauses) != 1 {
		return s, 0, api.ErrForm
	}
	s.customs = slices.Concat(s.customs, clauses)
	return s.following()
}

func (s state) drop(a args) (state, int, api.Errno) {
	i := a.numbers[0]
	if i >= len(s.customs) {
		return s, 0, api.ErrNone
	}
	s.customs = slices.Concat(s.customs[:i], s.customs[i+1:])
	return s.following()
}

// following returns a state with how many atoms follow from its customs.
func (s state) following() (state, int, api.Errno) {
	all, err := custom.All(s.customs)
	return s, len(all), err
}

func (s state) see(a args) (state, int, api.Errno) {
	bird := api.Sighting{X: a.numbers[0], Y: a.numbers[1], T: a.numbers[2]}
	s.seen = slices.Concat(s.seen, []api.Sighting{bird})
	fewest, err := wader.Fewest(s.seen, speed)
	return s, fewest, err
}

func (s state) addStrip(a args) (state, int, api.Errno) {
	for i, row := range s.strips {
		s.strips[i] = slices.Concat(row, a.numbers[i:i+1])
	}
	share, err := dole.Give(s.strips[:])
	if err != api.OK {
		return s, 0, err
	}
	return s, share[len(share)-1], api.OK
}

func (s state) addBundles(a args) (state, int, api.Errno) {
	s.stock += a.numbers[0]
	if s.stock > maxStock {
		return s, 0, api.ErrLimit
	}
	return s, s.stock, api.OK
}

func (s state) thatchRoof(a args) (state, int, api.Errno) {
	n := a.numbers
	pitch := api.Pitch{Rise: n[2], Run: n[3], Slope: n[4]}
	needs, err := thatch.Needs(api.Roof{Long: n[0], Wide: n[1], Pitch: pitch, Hip: n[5] == 1}, perSquare)
	if err != api.OK {
		return s, 0, err
	}
	if needs > s.stock {
		return s, 0, api.ErrNone
	}
	s.stock -= needs
	return s, needs, api.OK
}
