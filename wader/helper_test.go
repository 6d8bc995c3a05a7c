package wader_test

import (
	"math"
	"math/rand/v2"
	"slices"
	"strconv"
	"testing"

	"sedge/api"
)

// farNumbers are out of every range, and some of their sums and products overflow.
var farNumbers = []int{math.MinInt, math.MinInt + 1, math.MinInt / 2, math.MaxInt / 2, math.MaxInt - 1, math.MaxInt, 1 << 32, -1 << 32, 1 << 31}

// watch is what most calls are given.
type watch struct {
	l     []api.Sighting
	speed int
}

// seen makes a list of X, Y and T of each sighting.
func seen(numbers ...int) []api.Sighting {
	var out []api.Sighting
	for c := range slices.Chunk(numbers, 3) {
		out = append(out, api.Sighting{X: c[0], Y: c[1], T: c[2]})
	}
	return out
}

// distance counts the steps between two places, those to the side and those up
// or down.
func distance(x, y, toX, toY int) int {
	steps := 0
	for _, c := range [][2]int{{x, toX}, {y, toY}} {
		if c[0] < c[1] {
			steps += c[1] - c[0]
		} else {
			steps += c[0] - c[1]
		}
	}
	return steps
}

// leads says the words of the chapter.
func (w watch) leads(i, k int) bool {
	a, b := w.l[i], w.l[k]
	if a.X == b.X && a.Y == b.Y && a.T == b.T {
		return i < k
	}
	return a.T < b.T && distance(a.X, a.Y, b.X, b.Y) <= w.speed*(b.T-a.T)
}

func (w watch) has(i int) bool {
	return i >= 0 && i < len(w.l)
}

// isBird says the words of the chapter.
func (w watch) isBird(l []int) bool {
	for at, i := range l {
		if !w.has(i) || at > 0 && !w.leads(l[at-1], i) {
			return false
		}
	}
	return len(l) > 0
}

// areApart says the words of the chapter.
func (w watch) areApart(l []int) bool {
	for at, i := range l {
		if !w.has(i) || at > 0 && l[at-1] >= i {
			return false
		}
	}
	for _, i := range l {
		for _, k := range l {
			if w.leads(i, k) {
				return false
			}
		}
	}
	return true
}

// once reports whether each sighting is in just one of some lists, and nothing
// else is.
func (w watch) once(lists [][]int) bool {
	all := slices.Sorted(slices.Values(slices.Concat(lists...)))
	for at, i := range all {
		if at != i {
			return false
		}
	}
	return len(all) == len(w.l)
}

// explain says the words of the chapter.
func (w watch) explain(birds [][]int) bool {
	return w.once(birds) && !slices.ContainsFunc(birds, func(l []int) bool { return !w.isBird(l) })
}

// areRounds says the words of the chapter.
func (w watch) areRounds(rounds [][]int) bool {
	return w.once(rounds) && !slices.ContainsFunc(rounds, func(l []int) bool { return len(l) == 0 || !w.areApart(l) })
}

// order returns the sightings such that each one comes ahead of those to which
// it can lead.
func (w watch) order() []int {
	out := make([]int, len(w.l))
	for i := range out {
		out[i] = i
	}
	slices.SortStableFunc(out, func(i, k int) int { return w.l[i].T - w.l[k].T })
	return out
}

// explanations calls f with all birds that explain a watch of few sightings.
func (w watch) explanations(f func(birds [][]int)) {
	var birds [][]int
	var place func(rest []int)
	place = func(rest []int) {
		if len(rest) == 0 {
			f(birds)
			return
		}
		for b, bird := range birds {
			if w.leads(bird[len(bird)-1], rest[0]) {
				birds[b] = append(slices.Clone(bird), rest[0])
				place(rest[1:])
				birds[b] = bird
			}
		}
		birds = append(birds, rest[:1])
		place(rest[1:])
		birds = birds[:len(birds)-1]
	}
	place(w.order())
}

// fewest returns the least number of birds of all that explain a watch.
func (w watch) fewest() int {
	out := len(w.l)
	w.explanations(func(birds [][]int) { out = min(out, len(birds)) })
	return out
}

// sets calls f with each list of sightings that ascends, for a watch of few.
func (w watch) sets(f func([]int)) {
	for set := range 1 << len(w.l) {
		var l []int
		for i := range w.l {
			if set>>i&1 == 1 {
				l = append(l, i)
			}
		}
		f(l)
	}
}

// mostApart returns the greatest number of sightings of all that are apart.
func (w watch) mostApart() int {
	out := 0
	w.sets(func(l []int) {
		if w.areApart(l) {
			out = max(out, len(l))
		}
	})
	return out
}

// birds calls f with each bird, in order.
func (w watch) birds(f func([]int)) {
	var bird []int
	var walk func()
	walk = func() {
		for i := range w.l {
			if len(bird) == 0 || w.leads(bird[len(bird)-1], i) {
				bird = append(bird, i)
				f(bird)
				walk()
				bird = bird[:len(bird)-1]
			}
		}
	}
	walk()
}

// better reports whether a bird has more sightings than another one, or as many
// and comes ahead of it.
func better(a, b []int) bool {
	if len(a) != len(b) {
		return len(a) > len(b)
	}
	return slices.Compare(a, b) < 0
}

// longest returns the best bird, put together from a sighting and the best bird
// that can come behind it, the last sightings first.
func (w watch) longest() []int {
	var out []int
	from := make([][]int, len(w.l))
	for _, i := range slices.Backward(w.order()) {
		var rest []int
		for k := range w.l {
			if w.leads(i, k) && better(from[k], rest) {
				rest = from[k]
			}
		}
		from[i] = append([]int{i}, rest...)
		if better(from[i], out) {
			out = from[i]
		}
	}
	return out
}

// rounds takes away, time and again, the sightings to which none can lead of
// those that are left.
func (w watch) rounds() [][]int {
	var out [][]int
	taken := make([]bool, len(w.l))
	for {
		var round []int
		for i := range w.l {
			led := false
			for k := range w.l {
				led = led || !taken[k] && w.leads(k, i)
			}
			if !led && !taken[i] {
				round = append(round, i)
			}
		}
		if len(round) == 0 {
			return out
		}
		for _, i := range round {
			taken[i] = true
		}
		out = append(out, round)
	}
}

// lists calls f with each list of so many numbers from a least to a greatest one.
func lists(count, least, greatest int, f func([]int)) {
	l := make([]int, count)
	var fill func(i int)
	fill = func(i int) {
		if i == count {
			f(l)
			return
		}
		for n := least; n <= greatest; n++ {
			l[i] = n
			fill(i + 1)
		}
	}
	fill(0)
}

// smallWatches are all watches of few sightings on a line, at few places and
// times, and some on a square.
func smallWatches() []watch {
	var out []watch
	for _, c := range []struct{ count, wide, high, times int }{{0, 1, 1, 1}, {1, 2, 1, 2}, {2, 3, 1, 3}, {3, 3, 1, 3}, {4, 2, 1, 3}, {2, 2, 2, 2}, {3, 2, 2, 2}} {
		lists(c.count, 0, c.wide*c.high*c.times-1, func(codes []int) {
			var l []api.Sighting
			for _, n := range codes {
				l = append(l, api.Sighting{X: n % c.wide, Y: n / c.wide % c.high, T: n / c.wide / c.high})
			}
			for speed := range 3 {
				out = append(out, watch{l, speed})
			}
		})
	}
	return out
}

// someWatches have up to so many sightings, close to each other or far, and some
// of them twice, such that few or many can lead to each other.
func someWatches(count, most int) []watch {
	r := rand.New(rand.NewPCG(uint64(count), uint64(most)))
	var out []watch
	for range count {
		w := watch{speed: r.IntN([]int{1, 2, 3, 6, 101}[r.IntN(5)])}
		wide, high, late := []int{1, 3, 10, 30, 1000}[r.IntN(5)], []int{0, 0, 2, 1000}[r.IntN(4)], []int{1, 4, 12, 40, 100, 10000}[r.IntN(6)]
		for range r.IntN(most + 1) {
			s := api.Sighting{X: r.IntN(2*wide+1) - wide, Y: r.IntN(2*high+1) - high, T: r.IntN(late + 1)}
			if len(w.l) > 0 && r.IntN(12) == 0 {
				s = w.l[r.IntN(len(w.l))]
			}
			w.l = append(w.l, s)
		}
		out = append(out, w)
	}
	return out
}

// flocks have a few birds that fly hither and thither as fast as they can, and
// are seen in any order.
func flocks(count int) []watch {
	r := rand.New(rand.NewPCG(uint64(count), 6))
	var out []watch
	for range count {
		w := watch{speed: 1 + r.IntN(3)}
		for range 1 + r.IntN(6) {
			s := api.Sighting{X: r.IntN(9), Y: r.IntN(3), T: r.IntN(3)}
			for range 1 + r.IntN(7) {
				if len(w.l) == api.MaxSeen {
					break
				}
				w.l = append(w.l, s)
				minutes := 1 + r.IntN(3)
				s.T += minutes
				s.X += []int{-1, 1}[r.IntN(2)] * minutes * w.speed
			}
		}
		r.Shuffle(len(w.l), func(i, k int) { w.l[i], w.l[k] = w.l[k], w.l[i] })
		out = append(out, w)
	}
	return out
}

// limitWatches are those at the limits.
func limitWatches() []watch {
	const n = api.MaxSeen
	same := slices.Repeat(seen(1000, -1000, 10000), n)
	var there, again, back, ladder []api.Sighting
	for i := range n {
		there = append(there, api.Sighting{X: 1000, Y: 1000, T: i * 344})
		again = append(again, api.Sighting{X: 2000*(i%2) - 1000, Y: 2000*(i%2) - 1000, T: 40 * i})
		back = append(back, api.Sighting{X: -1000 + i/2, Y: 1000, T: 10000 - i})
		ladder = append(ladder, api.Sighting{X: i % 6, T: i / 6})
	}
	var out []watch
	for _, speed := range []int{0, 1, 99, 100} {
		for _, l := range [][]api.Sighting{nil, same, there, again, back, ladder, seen(-1000, -1000, 0, 1000, 1000, 40, 1000, 1000, 39)} {
			out = append(out, watch{l, speed})
		}
	}
	return out
}

// watches are small ones, drawn ones, and those at the limits.
func watches() []watch {
	return slices.Concat(smallWatches(), larger())
}

// larger are the watches that are not small.
func larger() []watch {
	return slices.Concat(someWatches(600, 8), someWatches(600, api.MaxSeen), flocks(600), limitWatches())
}

// badWatches are not valid, each for a reason of its own.
func badWatches() map[string]watch {
	out := map[string]watch{
		"31 sightings":             {make([]api.Sighting, 31), 5},
		"very many sightings":      {make([]api.Sighting, 100000), 5},
		"31 sightings, no speed":   {make([]api.Sighting, 31), 0},
		"all at fault":             {seen(1001, -1001, -1), 101},
		"a speed, and a sighting":  {seen(0, 0, 10001), 5},
		"the last one of thirty":   {append(make([]api.Sighting, 29), api.Sighting{Y: -1001}), 5},
		"the first one of thirty":  {append(seen(0, 1001, 0), make([]api.Sighting, 29)...), 5},
		"one in the midst of some": {seen(0, 0, 0, 0, 0, -1, 0, 0, 0), 5},
	}
	for _, n := range append([]int{-1, 101}, farNumbers...) {
		out["speed "+strconv.Itoa(n)] = watch{nil, n}
		out["speed and a sighting "+strconv.Itoa(n)] = watch{seen(0, 0, 0), n}
	}
	for i := range 3 {
		for _, n := range append([]int{-1001, 1001}, farNumbers...) {
			name := strconv.Itoa(n) + " at " + strconv.Itoa(i)
			l := seen(0, 0, 0, 1, 1, 1, 2, 2, 2)
			l[i].X = n
			out["X "+name] = watch{l, 5}
			l = seen(0, 0, 0, 1, 1, 1, 2, 2, 2)
			l[i].Y = n
			out["Y "+name] = watch{l, 5}
		}
		for _, n := range append([]int{-1, 10001}, farNumbers...) {
			l := seen(0, 0, 0, 1, 1, 1, 2, 2, 2)
			l[i].T = n
			out["T "+strconv.Itoa(n)+" at "+strconv.Itoa(i)] = watch{l, 5}
		}
	}
	return out
}

// cut returns the first few numbers of a list that may be very long.
func cut(l []int) []int {
	return l[:min(len(l), 35)]
}

// value gives out a result, and fails the test at an error.
func value[T any](t *testing.T, what string, of any) func(T, api.Errno) T {
	return func(v T, e api.Errno) T {
		t.Helper()
		if e != api.OK {
			t.Fatalf("%s of %v: error %d", what, of, e)
		}
		return v
	}
}
