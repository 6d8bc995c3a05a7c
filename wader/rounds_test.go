package wader_test

import (
	"slices"
	"testing"

	"sedge/api"
	"sedge/wader"
)

// checkLongest looks at Longest and Rounds of a watch.
func checkLongest(t *testing.T, w watch, bird []int, rounds [][]int) {
	t.Helper()
	l, e := wader.Longest(w.l, w.speed)
	if !slices.Equal(l, bird) || e != api.OK {
		t.Errorf("Longest of %v: %v, error %d, want %v", w, l, e, bird)
	}
	if is, e := wader.IsBird(w.l, w.speed, l); is != (len(l) > 0) || e != api.OK {
		t.Errorf("IsBird(%v, %v): %v, error %d", w, l, is, e)
	}
	all, e := wader.Rounds(w.l, w.speed)
	if !slices.EqualFunc(all, rounds, slices.Equal) || e != api.OK {
		t.Errorf("Rounds of %v: %v, error %d, want %v", w, all, e, rounds)
	}
	if is, e := wader.AreRounds(w.l, w.speed, all); !is || e != api.OK {
		t.Errorf("AreRounds(%v, %v): %v, error %d", w, all, is, e)
	}
	if len(all) != len(l) {
		t.Errorf("%v: %d rounds, but Longest has %d sightings", w, len(all), len(l))
	}
}

// P6.5, P6.9: the first of all birds of a watch of few sightings that have the
// most, and rounds that are taken away one by one.
func TestLongest(t *testing.T) {
	for _, w := range slices.Concat(smallWatches(), someWatches(600, 8)) {
		var best []int
		w.birds(func(bird []int) {
			if len(bird) > len(best) {
				best = slices.Clone(bird)
			}
		})
		checkLongest(t, w, best, w.rounds())
	}
}

// P6.5, P6.9: any number of sightings, by birds that are put together from
// shorter ones.
func TestLongestOfMany(t *testing.T) {
	for _, w := range slices.Concat(someWatches(3000, api.MaxSeen), flocks(3000), limitWatches()) {
		checkLongest(t, w, w.longest(), w.rounds())
	}
}

// P6.5: the chapter's first example, and others that are counted by hand.
func TestLongestExamples(t *testing.T) {
	all := func(count int) []int {
		out := make([]int, count)
		for i := range out {
			out[i] = i
		}
		return out
	}
	var each [][]int
	for i := range 30 {
		each = append(each, []int{i})
	}
	var late []api.Sighting
	for i := range 30 {
		late = append(late, api.Sighting{X: -1000 + 50*i, T: 30 - i})
	}
	back, turned := slices.Clone(each), all(30)
	slices.Reverse(back)
	slices.Reverse(turned)
	for _, c := range []struct {
		w      watch
		bird   []int
		rounds [][]int
	}{
		{watch{seen(0, 0, 0, 3, 0, 1, 4, 0, 2), 2}, []int{0, 2}, [][]int{{0, 1}, {2}}},
		{watch{seen(0, 0, 0, 3, 0, 1, 4, 0, 2), 1}, []int{1, 2}, [][]int{{0, 1}, {2}}},
		{watch{seen(0, 0, 0, 3, 0, 1, 4, 0, 2), 0}, []int{0}, [][]int{{0, 1, 2}}},
		{watch{nil, 0}, nil, nil},
		{watch{[]api.Sighting{}, 100}, nil, nil},
		{watch{seen(7, 7, 7), 0}, []int{0}, [][]int{{0}}},
		{watch{seen(7, 7, 8, 7, 7, 7), 0}, []int{1, 0}, [][]int{{1}, {0}}},
		{watch{slices.Repeat(seen(7, 7, 7), 30), 0}, all(30), each},
		{watch{late, 50}, turned, back},
		{watch{late, 49}, []int{0}, [][]int{all(30)}},
		{watch{seen(9, 0, 9, 0, 0, 0, 5, 0, 5, 5, 0, 5, 4, 0, 4), 1}, []int{1, 4, 2, 3, 0}, [][]int{{1}, {4}, {2}, {3}, {0}}},
		{watch{seen(0, 0, 1, 0, 5, 0, 0, 5, 2, 0, 0, 2, 0, 5, 3), 1}, []int{1, 2, 4}, [][]int{{0, 1}, {2, 3}, {4}}}, // the first sighting has too short a one
		{watch{seen(0, 1, 2, 0, 0, 1, 0, 2, 2, 0, 1, 3), 1}, []int{1, 0, 3}, [][]int{{1, 2}, {0}, {3}}},
		{watch{seen(0, 0, 3, 0, 0, 2, 0, 0, 2, 0, 0, 1), 0}, []int{3, 1, 2, 0}, [][]int{{3}, {1}, {2}, {0}}},
		{watch{seen(0, 0, 0, 0, 0, 9, 0, 9, 9, 0, 9, 0), 0}, []int{0, 1}, [][]int{{0, 3}, {1, 2}}},
	} {
		checkLongest(t, c.w, c.bird, c.rounds)
	}
}

// P6.9: no bird has more sightings than there are any rounds.
func TestBirdsAndRounds(t *testing.T) {
	for i, w := range slices.Concat(smallWatches(), someWatches(150, 7)) {
		if len(w.l) == 4 && i%7 > 0 {
			continue
		}
		fewest := len(w.l)
		w.divisions(func(rounds [][]int) {
			if is, e := wader.AreRounds(w.l, w.speed, rounds); is != w.areRounds(rounds) || e != api.OK {
				t.Errorf("AreRounds(%v, %v): %v, error %d", w, rounds, is, e)
			} else if is {
				fewest = min(fewest, len(rounds))
			}
		})
		w.birds(func(bird []int) {
			if is, e := wader.IsBird(w.l, w.speed, bird); !is || len(bird) > fewest || e != api.OK {
				t.Errorf("IsBird(%v, %v): %v, error %d, with %d rounds", w, bird, is, e, fewest)
			}
		})
	}
}

// divisions calls f with all ways to put few sightings in lists that ascend.
func (w watch) divisions(f func([][]int)) {
	var all [][]int
	var place func(i int)
	place = func(i int) {
		if i == len(w.l) {
			f(all)
			return
		}
		for k, l := range all {
			all[k] = append(slices.Clone(l), i)
			place(i + 1)
			all[k] = l
		}
		all = append(all, []int{i})
		place(i + 1)
		all = all[:len(all)-1]
	}
	place(0)
}
