package dole

import "sedge/api"

// Halves divides strips into two parts of which the lesser worth is as great as
// it can be, and returns which are in the first part, and that worth.
func Halves(row []int) (part []bool, least int, err api.Errno) {
	if !isRow(row) {
		return nil, 0, api.ErrArg
	}
	set, least := halve(row)
	part = make([]bool, len(row))
	for strip := range part {
		part[strip] = side(set, strip, len(row)) == 1
	}
	return part, least, api.OK
}

// Two shares out between two commoners: the first one halves, the second one
// takes the part that is worth more to it.
func Two(v [][]int) ([]int, api.Errno) {
	if !Valid(v) {
		return nil, api.ErrValues
	}
	if len(v) != 2 {
		return nil, api.ErrArg
	}
	set, _ := halve(v[0])
	taken := 1
	if worth := parts(v[1], set); worth[0] > worth[1] {
		taken = 0
	}
	share := make([]int, len(v[0]))
	for strip := range share {
		if side(set, strip, len(share)) == taken {
			share[strip] = 1
		}
	}
	return share, api.OK
}

// halve returns the first set of strips with which the lesser worth of both
// parts is as great as it can be, and this worth.
func halve(row []int) (set, least int) {
	for s := range 1 << len(row) {
		worth := parts(row, s)
		if n := min(worth[0], worth[1]); n > least {
			set, least = s, n
		}
	}
	return set, least
}

// parts returns what the strips that are not in a set are worth, and those that
// are.
func parts(row []int, set int) [2]int {
	var worth [2]int
	for strip, n := range row {
		worth[side(set, strip, len(row))] += n
	}
	return worth
}

// side returns 1 if a strip is in a set, otherwise 0. The first strip has the
// highest place, so that greater sets come later strip by strip, too.
func side(set, strip, count int) int {
	return set >> (count - 1 - strip) & 1
}
