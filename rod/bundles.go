package rod

import (
	"sort"

	"sedge/api"
)

const (
	maxGirth   = 1000
	maxBundles = 10000
)

// Bundles returns how many bundles of a girth a band holds, by areas.
func Bundles(girth, band int) (int, api.Errno) {
	if !between(girth, 1, maxGirth) || !between(band, 1, maxGirth) {
		return 0, api.ErrArg
	}
	return band * band / (girth * girth), api.OK
}

// Band returns the least band that holds so many bundles of a girth.
func Band(girth, bundles int) (int, api.Errno) {
	if !between(girth, 1, maxGirth) || !between(bundles, 1, maxBundles) {
		return 0, api.ErrArg
	}
	area := bundles * girth * girth
	// 100 girths hold maxBundles, so the search finds a band.
	return sort.Search(100*girth, func(band int) bool { return band*band >= area }), api.OK
}
