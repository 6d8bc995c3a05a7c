package thatch

import (
	"slices"

	"sedge/api"
)

const (
	maxFaces   = 10
	maxCourses = 100 // that a face needs
	maxHands   = 10
	maxHours   = 2000 // of a list for IsWork
)

// Hours returns the least hours of a work plan.
func Hours(job []int, hands int) (int, api.Errno) {
	if err := checkJob(job, hands); err != api.OK {
		return 0, err
	}
	sum := 0
	for _, n := range job {
		sum += n
	}
	return max(slices.Max(job), roundedUp(sum, hands)), api.OK
}

// Work returns a work plan of the least hours: in each hour those faces are
// worked on that still need most. That brings Hours of what is left down by one:
// no more faces than hands need that many, so that all of them are worked on, and
// if a hand has no work, all faces that are left are.
func Work(job []int, hands int) ([][]int, api.Errno) {
	if err := checkJob(job, hands); err != api.OK {
		return nil, err
	}
	var work [][]int
	left := slices.Clone(job)
	for slices.Max(left) > 0 {
		hour := neediest(left, hands)
		for _, face := range hour {
			left[face]--
		}
		work = append(work, hour)
	}
	return work, api.OK
}

// IsWork reports whether a list is a work plan.
func IsWork(job []int, hands int, work [][]int) (bool, api.Errno) {
	if err := checkJob(job, hands); err != api.OK {
		return false, err
	}
	if len(work) > maxHours {
		return false, api.OK
	}
	left := slices.Clone(job)
	for _, hour := range work {
		if !between(len(hour), 1, hands) || !ascend(hour, len(job)) {
			return false, api.OK
		}
		for _, face := range hour {
			left[face]--
		}
	}
	return !slices.ContainsFunc(left, func(n int) bool { return n != 0 }), api.OK
}

// checkJob returns the first error of a job and hands.
func checkJob(job []int, hands int) api.Errno {
	if !isJob(job) {
		return api.ErrJob
	}
	if !between(hands, 1, maxHands) {
		return api.ErrArg
	}
	return api.OK
}

func isJob(job []int) bool {
	return between(len(job), 1, maxFaces) && !slices.ContainsFunc(job, func(n int) bool {
		return !between(n, 0, maxCourses)
	})
}

// neediest returns the faces that still need most, not more than there are hands,
// in ascending order.
func neediest(left []int, hands int) []int {
	var faces []int
	for face, n := range left {
		if n > 0 {
			faces = append(faces, face)
		}
	}
	slices.SortStableFunc(faces, func(a, b int) int { return left[b] - left[a] })
	faces = faces[:min(hands, len(faces))]
	slices.Sort(faces)
	return faces
}
