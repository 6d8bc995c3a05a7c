package rod

import (
	"slices"

	"sedge/api"
)

// Cut cuts a parcel along the straight line between the corners i < k.
func Cut(p []api.XY, i, k int) (a, b []api.XY, err api.Errno) {
	if !Valid(p) {
		return nil, nil, api.ErrParcel
	}
	if i < 0 || i >= k || k >= len(p) || neighbours(len(p), i, k) {
		return nil, nil, api.ErrArg
	}
	a = slices.Clone(p[i : k+1])
	b = slices.Concat(p[k:], p[:i+1])
	if !Valid(a) || !Valid(b) || abs(signedArea(a))+abs(signedArea(b)) != abs(signedArea(p)) {
		return nil, nil, api.ErrNone
	}
	return a, b, api.OK
}

// Move returns a parcel moved.
func Move(p []api.XY, by api.XY) ([]api.XY, api.Errno) {
	if !Valid(p) {
		return nil, api.ErrParcel
	}
	// A longer way leads out of range from everywhere, and its sums could overflow.
	if !between(by.X, -2*api.MaxRod, 2*api.MaxRod) || !between(by.Y, -2*api.MaxRod, 2*api.MaxRod) {
		return nil, api.ErrArg
	}
	moved := slices.Clone(p)
	for i := range len(moved) {
		moved[i].X += by.X
		moved[i].Y += by.Y
	}
	if !allInRange(moved) {
		return nil, api.ErrArg
	}
	return moved, api.OK
}
