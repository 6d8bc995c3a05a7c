package rod

import (
	"cmp"
	"slices"

	"sedge/api"
)

// Hull returns the smallest convex parcel without straight corners that has
// all posts of a list inside or on its border, from the first post by x and
// then y on, with the parcel on the left.
func Hull(l []api.XY) ([]api.XY, api.Errno) {
	if len(l) > api.MaxPosts || !allInRange(l) {
		return nil, api.ErrArg
	}
	posts := slices.Clone(l)
	slices.SortFunc(posts, byXY)
	posts = slices.Compact(posts)
	if len(posts) < 3 {
		return nil, api.ErrNone
	}
	there := leftChain(posts)
	slices.Reverse(posts)
	back := leftChain(posts)
	// Each chain ends where the other one begins.
	hull := slices.Concat(there[:len(there)-1], back[:len(back)-1])
	if len(hull) < 3 {
		return nil, api.ErrNone
	}
	return hull, api.OK
}

func byXY(a, b api.XY) int {
	return cmp.Or(cmp.Compare(a.X, b.X), cmp.Compare(a.Y, b.Y))
}

// leftChain returns the posts, of a sorted list, at which a line from the
// first to the last one bends to the left with no post on its right.
func leftChain(posts []api.XY) []api.XY {
	var chain []api.XY
	for _, a := range posts {
		for len(chain) > 1 && cross(chain[len(chain)-2], chain[len(chain)-1], a) <= 0 {
			chain = chain[:len(chain)-1]
		}
		chain = append(chain, a)
	}
	return chain
}
