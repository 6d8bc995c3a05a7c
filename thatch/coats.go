package thatch

import (
	"slices"

	"sedge/api"
)

const (
	maxSlant   = 5000
	maxGauge   = 100
	maxReed    = 200
	maxMissing = 100
	maxLayers  = 1000 // in the question for thin places
)

// ValidCoat reports whether a coat is valid.
func ValidCoat(c api.Coat) bool {
	if !between(c.Slant, 1, maxSlant) || !between(c.Gauge, 1, maxGauge) || !between(c.Reed, 1, maxReed) {
		return false
	}
	return len(c.Missing) <= maxMissing && ascend(c.Missing, courses(c))
}

// Courses returns how many courses a coat has, with those that are missing.
func Courses(c api.Coat) (int, api.Errno) {
	if !ValidCoat(c) {
		return 0, api.ErrCoat
	}
	return courses(c), api.OK
}

// Layers returns the layers over an inch.
func Layers(c api.Coat, inch int) (int, api.Errno) {
	if !ValidCoat(c) {
		return 0, api.ErrCoat
	}
	if !between(inch, 0, c.Slant-1) {
		return 0, api.ErrArg
	}
	return layersAt(c, inch), api.OK
}

// Least returns the least layers over an inch.
func Least(c api.Coat) (int, api.Errno) {
	if !ValidCoat(c) {
		return 0, api.ErrCoat
	}
	least := layersAt(c, 0)
	for inch := range c.Slant {
		least = min(least, layersAt(c, inch))
	}
	return least, api.OK
}

// Thin returns the first and the last inch of each place with fewer than so many
// layers.
func Thin(c api.Coat, layers int) ([][2]int, api.Errno) {
	if !ValidCoat(c) {
		return nil, api.ErrCoat
	}
	if !between(layers, 0, maxLayers) {
		return nil, api.ErrArg
	}
	var out [][2]int
	for inch := range c.Slant {
		if layersAt(c, inch) >= layers {
			continue
		}
		if last := len(out) - 1; last >= 0 && out[last][1] == inch-1 {
			out[last][1] = inch
		} else {
			out = append(out, [2]int{inch, inch})
		}
	}
	return out, api.OK
}

// Reed returns the sum of the layers over all inches: how far the courses lie
// together.
func Reed(c api.Coat) (int, api.Errno) {
	if !ValidCoat(c) {
		return 0, api.ErrCoat
	}
	sum := 0
	for course := range courses(c) {
		if !slices.Contains(c.Missing, course) {
			sum += min(c.Reed, c.Slant-course*c.Gauge)
		}
	}
	return sum, api.OK
}

func courses(c api.Coat) int {
	return roundedUp(c.Slant, c.Gauge)
}

// layersAt returns how many courses lie over an inch: of those that begin no higher
// up, the ones that reach it and are not missing.
func layersAt(c api.Coat, inch int) int {
	first, last := 0, inch/c.Gauge
	if inch >= c.Reed {
		first = (inch-c.Reed)/c.Gauge + 1
	}
	count := last - first + 1
	for _, course := range c.Missing {
		if between(course, first, last) {
			count--
		}
	}
	return count
}
