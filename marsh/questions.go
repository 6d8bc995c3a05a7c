package marsh

import (
	"strconv"
	"strings"

	"sedge/api"
	"sedge/bed"
	"sedge/custom"
	"sedge/dole"
	"sedge/rod"
	"sedge/wader"
)

func (s state) area(a args) (string, api.Errno) {
	posts, is := s.parcels[a.name]
	if !is {
		return "", api.ErrNone
	}
	twice, err := rod.Area(posts)
	if err != api.OK {
		return "", err
	}
	return rod.FormatArea(twice / 2)
}

func (s state) inside(a args) (string, api.Errno) {
	posts, is := s.parcels[a.name]
	if !is {
		return "", api.ErrNone
	}
	return told(rod.Where(posts, api.XY{X: a.numbers[0], Y: a.numbers[1]}))
}

func (s state) way(a args) (string, api.Errno) {
	if !s.hasMap() {
		return "", api.ErrNone
	}
	way, err := bed.Way(s.land, a.numbers[0], a.numbers[1])
	return told(len(way)-1, err)
}

func (s state) holds(a args) (string, api.Errno) {
	atom, err := custom.Read(a.text)
	if err != api.OK {
		return "", err
	}
	follows, err := custom.Follows(s.customs, atom)
	if err != api.OK {
		return "", err
	}
	if follows {
		return "yes", api.OK
	}
	return "no", api.OK
}

func (s state) steps(a args) (string, api.Errno) {
	atom, err := custom.Read(a.text)
	if err != api.OK {
		return "", err
	}
	return told(custom.Round(s.customs, atom))
}

func (s state) share(args) (string, api.Errno) {
	share, err := dole.InTurn(s.strips[:])
	if err != api.OK {
		return "", err
	}
	if len(share) == 0 {
		return "-", api.OK
	}
	return joined(share...), api.OK
}

func (s state) birds(args) (string, api.Errno) {
	fewest, err := wader.Fewest(s.seen, speed)
	if err != api.OK {
		return "", err
	}
	longest, err := wader.Longest(s.seen, speed)
	if err != api.OK {
		return "", err
	}
	return joined(fewest, len(longest)), api.OK
}

// told returns the answer that is a number, and none with an error.
func told(n int, err api.Errno) (string, api.Errno) {
	if err != api.OK {
		return "", err
	}
	return strconv.Itoa(n), api.OK
}

func joined(numbers ...int) string {
	var words []string
	for _, n := range numbers {
		words = append(words, strconv.Itoa(n))
	}
	return strings.Join(words, " ")
}
