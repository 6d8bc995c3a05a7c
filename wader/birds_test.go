package wader_test

import (
	"math/rand/v2"
	"slices"
	"testing"

	"sedge/api"
	"sedge/wader"
)

// checkBirds looks at Fewest, Birds and Apart of a watch, and that they show
// each other to be best.
func checkBirds(t *testing.T, w watch) int {
	t.Helper()
	n := value[int](t, "Fewest", w)(wader.Fewest(w.l, w.speed))
	birds := value[[][]int](t, "Birds", w)(wader.Birds(w.l, w.speed))
	some := value[[]int](t, "Apart", w)(wader.Apart(w.l, w.speed))
	if !w.explain(birds) || len(birds) != n {
		t.Errorf("Birds of %v: %v, Fewest %d", w, birds, n)
	}
	if !w.areApart(some) || len(some) != n {
		t.Errorf("Apart of %v: %v, Fewest %d", w, some, n)
	}
	if is, e := wader.Explain(w.l, w.speed, birds); !is || e != api.OK {
		t.Errorf("Explain(%v, %v): %v, error %d", w, birds, is, e)
	}
	if is, e := wader.AreApart(w.l, w.speed, some); !is || e != api.OK {
		t.Errorf("AreApart(%v, %v): %v, error %d", w, some, is, e)
	}
	return n
}

// P6.3, P6.4, P6.8: all birds that explain a watch of few sightings, and all of
// its sightings that are apart.
func TestFewest(t *testing.T) {
	for i, w := range slices.Concat(smallWatches(), someWatches(600, 8)) {
		if len(w.l) == 4 && i%3 > 0 {
			continue
		}
		if n := checkBirds(t, w); n != w.fewest() || n != w.mostApart() {
			t.Errorf("Fewest of %v: %d, want %d, %d", w, n, w.fewest(), w.mostApart())
		}
	}
}

// P6.3, P6.4, P6.8: any number of sightings.
func TestFewestOfMany(t *testing.T) {
	for _, w := range slices.Concat(someWatches(3000, api.MaxSeen), flocks(3000), limitWatches()) {
		checkBirds(t, w)
	}
}

// P6.3, P6.4: the chapter's first example, and others that are counted by hand.
func TestFewestExamples(t *testing.T) {
	var line, late []api.Sighting
	for i := range 30 {
		line = append(line, api.Sighting{X: 3 * i, T: 9})
		late = append(late, api.Sighting{X: -1000 + 50*i, T: 30 - i})
	}
	for _, c := range []struct {
		w    watch
		want int
	}{
		{watch{seen(0, 0, 0, 3, 0, 1, 4, 0, 2), 2}, 2},
		{watch{seen(0, 0, 0, 3, 0, 1, 4, 0, 2), 1}, 2},
		{watch{seen(0, 0, 0, 3, 0, 1, 4, 0, 2), 0}, 3},
		{watch{seen(0, 0, 0, 3, 0, 1, 4, 0, 2), 3}, 1},
		{watch{nil, 0}, 0},
		{watch{nil, 100}, 0},
		{watch{seen(7, 7, 7), 0}, 1},
		{watch{seen(7, 7, 7, 7, 7, 7), 0}, 1},
		{watch{seen(7, 7, 7, 7, 8, 7), 100}, 2},
		{watch{seen(7, 7, 8, 7, 7, 7), 0}, 1},
		{watch{slices.Repeat(seen(7, 7, 7), 30), 0}, 1},
		{watch{line, 100}, 30},
		{watch{late, 100}, 1},
		{watch{late, 50}, 1},
		{watch{late, 49}, 30},
		{watch{seen(0, 0, 0, 4, 0, 0, 2, 0, 2, -3, 0, 3), 1}, 2}, // the first one must not take the nearest one
		{watch{seen(0, 0, 0, 2, 0, 0, 4, 0, 0, 1, 0, 1, 3, 0, 1, -1, 0, 1), 1}, 3},              // all must be led elsewhere
		{watch{seen(0, 0, 0, 0, 5, 0, 0, 0, 5, 0, 5, 5, 0, 0, 9, 0, 5, 9), 0}, 2},               // two that stay
		{watch{seen(0, 0, 0, 0, 5, 1, 0, 0, 2, 0, 5, 3, 0, 0, 4, 0, 5, 5), 4}, 2},               // two that are seen in turn
		{watch{seen(1, 0, 0, 1, 0, 2, 0, 0, 1, 2, 0, 1, 1, 1, 1, 1, -1, 1, 1, 0, 1), 1}, 5},     // one that comes, five, one that goes
		{watch{seen(1, 0, 0, 1, 0, 2, 0, 0, 1, 2, 0, 1, 1, 1, 1, 1, -1, 1, 1, 0, 1), 0}, 5},     // and with none of them but the middle one
		{watch{seen(0, 0, 1, 10, 0, 1, 0, 0, 2, 10, 0, 2, 0, 0, 0, 10, 0, 0, 5, 0, 1), 100}, 3}, // three at a time
	} {
		if n := checkBirds(t, c.w); n != c.want {
			t.Errorf("Fewest of %v: %d, want %d", c.w, n, c.want)
		}
	}
}

// checkDivided looks at Explain and AreRounds of lists.
func checkDivided(t *testing.T, w watch, l [][]int) {
	t.Helper()
	if is, e := wader.Explain(w.l, w.speed, l); is != w.explain(l) || e != api.OK {
		t.Errorf("Explain(%v, %v): %v, error %d", w, l, is, e)
	}
	if is, e := wader.AreRounds(w.l, w.speed, l); is != w.areRounds(l) || e != api.OK {
		t.Errorf("AreRounds(%v, %v): %v, error %d", w, l, is, e)
	}
}

// P6.3, P6.5: all short lists of short lists, for a few watches.
func TestExplainAndAreRounds(t *testing.T) {
	for _, l := range [][]api.Sighting{nil, seen(1, 1, 1), seen(1, 1, 1, 1, 1, 1), seen(0, 0, 3, 1, 0, 2), seen(0, 0, 0, 3, 0, 1, 4, 0, 2), seen(2, 2, 2, 2, 2, 2, 2, 2, 2)} {
		w := watch{l, 2}
		var few [][]int
		for count := range min(len(l), 2) + 2 {
			lists(count, -1, len(l), func(l []int) { few = append(few, slices.Clone(l)) })
		}
		for count := range 3 {
			lists(count, 0, len(few)-1, func(l []int) {
				var all [][]int
				for _, i := range l {
					all = append(all, few[i])
				}
				checkDivided(t, w, all)
				checkDivided(t, w, append(all, []int{0}))
			})
		}
	}
}

// P6.3, P6.5: birds that explain a watch, rounds, and what is left of them if
// something is taken away, added, or put elsewhere.
func TestExplainAndAreRoundsOfMany(t *testing.T) {
	r := rand.New(rand.NewPCG(6, 3))
	for _, w := range larger() {
		birds := value[[][]int](t, "Birds", w)(wader.Birds(w.l, w.speed))
		for _, all := range [][][]int{birds, w.rounds()} {
			checkDivided(t, w, all)
			checkDivided(t, w, append(slices.Clone(all), nil))
			checkDivided(t, w, append([][]int{{}}, all...))
			if len(all) == 0 {
				continue
			}
			for range 12 {
				checkDivided(t, w, changed(r, w, all))
			}
		}
	}
}

// changed returns lists with a change that is drawn.
func changed(r *rand.Rand, w watch, all [][]int) [][]int {
	out := slices.Clone(all)
	for i := range out {
		out[i] = slices.Clone(out[i])
	}
	i, k := r.IntN(len(out)), r.IntN(len(out))
	at := r.IntN(len(out[i]))
	switch r.IntN(8) {
	case 0:
		return slices.Delete(out, i, i+1)
	case 1:
		return append(out, out[i])
	case 2:
		out[i][at] = r.IntN(len(w.l)+2) - 1
	case 3:
		out[i] = slices.Delete(out[i], at, at+1)
	case 4:
		out[i] = append(out[i], r.IntN(len(w.l)+2)-1)
	case 5:
		r.Shuffle(len(out), func(i, k int) { out[i], out[k] = out[k], out[i] })
	case 6:
		out[i], out[k] = out[i][:at], append(out[k], out[i][at:]...)
	case 7:
		return append(out[:i:i], append([][]int{out[i][:at], out[i][at:]}, out[i+1:]...)...)
	}
	return out
}

// P6.3, P6.5: lists that are looked at by hand.
func TestExplainExamples(t *testing.T) {
	w := watch{seen(0, 0, 0, 3, 0, 1, 4, 0, 2), 2}
	many := make([][]int, 100000)
	for i := range many {
		many[i] = []int{i % 3}
	}
	for _, c := range []struct {
		l               [][]int
		explain, rounds bool
	}{
		{[][]int{{0, 2}, {1}}, true, false},
		{[][]int{{1}, {0, 2}}, true, false},
		{[][]int{{0}, {1, 2}}, true, false},
		{[][]int{{0, 1}, {2}}, false, true},
		{[][]int{{2}, {0, 1}}, false, true},
		{[][]int{{1, 0}, {2}}, false, false},
		{[][]int{{2, 0}, {1}}, false, false},
		{[][]int{{0}, {1}, {2}}, true, true},
		{[][]int{{2}, {0}, {1}}, true, true},
		{[][]int{{0, 1, 2}}, false, false},
		{[][]int{{0}, {1}, {2}, {}}, false, false},
		{[][]int{nil, {0}, {1}, {2}}, false, false},
		{[][]int{{0}, {1}}, false, false},
		{[][]int{{0}, {2}}, false, false},
		{[][]int{{1}, {2}}, false, false},
		{[][]int{{0}, {1}, {2}, {2}}, false, false},
		{[][]int{{0}, {1}, {2}, {0}}, false, false},
		{[][]int{{0, 2}, {1, 2}}, false, false},
		{[][]int{{0, 1}, {2}, {1}}, false, false},
		{[][]int{{0}, {1}, {2}, {3}}, false, false},
		{[][]int{{0}, {1}, {2}, {-1}}, false, false},
		{[][]int{{0}, {1}, {3}}, false, false},
		{nil, false, false},
		{[][]int{}, false, false},
		{[][]int{nil}, false, false},
		{many, false, false},
		{make([][]int, 100000), false, false},
	} {
		if is, e := wader.Explain(w.l, w.speed, c.l); is != c.explain || e != api.OK {
			t.Errorf("Explain by %v: %v, error %d", c.l[:min(len(c.l), 9)], is, e)
		}
		if is, e := wader.AreRounds(w.l, w.speed, c.l); is != c.rounds || e != api.OK {
			t.Errorf("AreRounds of %v: %v, error %d", c.l[:min(len(c.l), 9)], is, e)
		}
	}
	for _, l := range [][][]int{nil, {}, {nil}, {{0}}} {
		checkDivided(t, watch{nil, 5}, l)
	}
}

// P6.8: no sightings apart are more than any birds that explain a watch.
func TestApartAndBirds(t *testing.T) {
	for i, w := range slices.Concat(smallWatches(), someWatches(150, 7)) {
		if len(w.l) == 4 && i%7 > 0 {
			continue
		}
		w.explanations(func(birds [][]int) {
			if is, e := wader.Explain(w.l, w.speed, birds); !is || e != api.OK {
				t.Errorf("Explain(%v, %v): %v, error %d", w, birds, is, e)
			}
			w.sets(func(some []int) {
				if is, e := wader.AreApart(w.l, w.speed, some); is && len(some) > len(birds) || e != api.OK {
					t.Errorf("%v: %v are apart and %v explain it, error %d", w, some, birds, e)
				}
			})
		})
	}
}

// P6.10: a greater speed, and one more sighting at any place in the list.
func TestMore(t *testing.T) {
	r := rand.New(rand.NewPCG(6, 10))
	for _, w := range slices.Concat(someWatches(200, 29), flocks(200), limitWatches()) {
		count := func(w watch) (int, int) {
			bird := value[[]int](t, "Longest", w)(wader.Longest(w.l, w.speed))
			return value[int](t, "Fewest", w)(wader.Fewest(w.l, w.speed)), len(bird)
		}
		few, long := count(w)
		lessFew, moreLong := few, long
		for speed := w.speed + 1; speed <= 100; speed += 1 + speed/8 {
			n, m := count(watch{w.l, speed})
			if n > lessFew || m < moreLong {
				t.Errorf("%v, and at the speed %d: %d birds of %d, and %d of %d", w, speed, lessFew, moreLong, n, m)
			}
			lessFew, moreLong = n, m
		}
		for range 9 {
			if len(w.l) == api.MaxSeen {
				break
			}
			s := api.Sighting{X: r.IntN(9) - 4, Y: r.IntN(3), T: r.IntN(30)}
			if len(w.l) > 0 && r.IntN(3) == 0 {
				s = w.l[r.IntN(len(w.l))]
			}
			l := slices.Insert(slices.Clone(w.l), r.IntN(len(w.l)+1), s)
			n, m := count(watch{l, w.speed})
			if n < few || n > few+1 || m < long || m > long+1 {
				t.Errorf("%v, and with %v: %d birds of %d, and %d of %d", w, s, few, long, n, m)
			}
		}
	}
}
