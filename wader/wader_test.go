package wader_test

import (
	"math"
	"slices"
	"testing"

	"sedge/api"
	"sedge/wader"
)

// P6.2: watches at the limits, and those that are not valid.
func TestValid(t *testing.T) {
	for _, w := range watches() {
		if !wader.Valid(w.l, w.speed) {
			t.Errorf("%v is not valid", w)
		}
	}
	for name, w := range map[string]watch{
		"no sightings":        {nil, 0},
		"empty sightings":     {[]api.Sighting{}, 100},
		"thirty sightings":    {make([]api.Sighting, 30), 100},
		"the greatest":        {seen(1000, 1000, 10000), 100},
		"the least":           {seen(-1000, -1000, 0), 0},
		"the same, and later": {seen(1, 2, 3, 1, 2, 3, 1, 2, 2), 1},
	} {
		if !wader.Valid(w.l, w.speed) {
			t.Errorf("%s: not valid", name)
		}
	}
	for name, w := range badWatches() {
		if wader.Valid(w.l, w.speed) {
			t.Errorf("%s: valid", name)
		}
	}
}

// P6.1, R2: ErrWatch comes ahead of what is wrong beside it, and with nothing else.
func TestWatchErrors(t *testing.T) {
	for name, w := range badWatches() {
		check := func(what string, zero bool, e api.Errno) {
			t.Helper()
			if !zero || e != api.ErrWatch {
				t.Errorf("%s, %s: a result %v, error %d", what, name, !zero, e)
			}
		}
		for _, i := range append([]int{0, 1, -1, 30}, farNumbers...) {
			for _, k := range []int{0, 1, 2, -1, 31, math.MaxInt} {
				is, e := wader.Leads(w.l, w.speed, i, k)
				check("Leads", !is, e)
			}
			for _, list := range [][]int{nil, {i}, {0, i}, {0, 1, 2}, make([]int, 100)} {
				is, e := wader.IsBird(w.l, w.speed, list)
				check("IsBird", !is, e)
				is, e = wader.AreApart(w.l, w.speed, list)
				check("AreApart", !is, e)
				for _, all := range [][][]int{nil, {nil}, {list}, {{0}, {1}, {2}}, {list, list}} {
					is, e = wader.Explain(w.l, w.speed, all)
					check("Explain", !is, e)
					is, e = wader.AreRounds(w.l, w.speed, all)
					check("AreRounds", !is, e)
				}
			}
		}
		n, e := wader.Fewest(w.l, w.speed)
		check("Fewest", n == 0, e)
		all, e := wader.Birds(w.l, w.speed)
		check("Birds", len(all) == 0, e)
		l, e := wader.Apart(w.l, w.speed)
		check("Apart", len(l) == 0, e)
		l, e = wader.Longest(w.l, w.speed)
		check("Longest", len(l) == 0, e)
		all, e = wader.Rounds(w.l, w.speed)
		check("Rounds", len(all) == 0, e)
	}
}

// P6.2: which sighting can lead to which one, and that what leads on leads past.
func TestLeads(t *testing.T) {
	for _, w := range watches() {
		for i := range w.l {
			for k := range w.l {
				is, e := wader.Leads(w.l, w.speed, i, k)
				if is != w.leads(i, k) || e != api.OK {
					t.Errorf("Leads(%v, %d, %d): %v, error %d", w, i, k, is, e)
				}
				for m := range w.l {
					if len(w.l) < 9 && is && w.leads(k, m) && !w.leads(i, m) {
						t.Errorf("%v: %d leads to %d and that to %d", w, i, k, m)
					}
				}
			}
		}
	}
}

// P6.2: sightings that are looked at by hand.
func TestLeadsExamples(t *testing.T) {
	for _, c := range []struct {
		speed      int
		a, b       api.Sighting
		there, ago bool
	}{
		{2, api.Sighting{}, api.Sighting{X: 4, T: 2}, true, false},
		{2, api.Sighting{}, api.Sighting{X: 5, T: 2}, false, false},
		{2, api.Sighting{}, api.Sighting{X: 2, Y: 2, T: 2}, true, false},
		{2, api.Sighting{}, api.Sighting{X: 2, Y: 3, T: 2}, false, false},
		{2, api.Sighting{}, api.Sighting{X: -2, Y: 2, T: 2}, true, false},
		{2, api.Sighting{}, api.Sighting{X: -3, Y: 2, T: 2}, false, false},
		{2, api.Sighting{}, api.Sighting{X: 3, Y: -1, T: 2}, true, false},
		{2, api.Sighting{}, api.Sighting{X: 3, Y: -2, T: 2}, false, false},
		{2, api.Sighting{}, api.Sighting{X: -1, Y: -3, T: 2}, true, false},
		{2, api.Sighting{}, api.Sighting{X: -1, Y: -4, T: 2}, false, false},
		{2, api.Sighting{X: 5, Y: 6, T: 9}, api.Sighting{X: 4, Y: 5, T: 8}, false, true},
		{2, api.Sighting{X: 5, Y: 6, T: 9}, api.Sighting{X: 4, Y: 4, T: 8}, false, false},
		{0, api.Sighting{X: 3}, api.Sighting{X: 3, T: 1}, true, false},
		{0, api.Sighting{X: 3}, api.Sighting{X: 3, Y: 1, T: 10000}, false, false},
		{0, api.Sighting{X: 3, Y: 4, T: 5}, api.Sighting{X: 3, Y: 4, T: 5}, true, false},
		{100, api.Sighting{X: 3, Y: 4, T: 5}, api.Sighting{X: 3, Y: 4, T: 5}, true, false},
		{100, api.Sighting{X: 3, Y: 4, T: 5}, api.Sighting{X: 4, Y: 4, T: 5}, false, false},
		{100, api.Sighting{X: 3, Y: 4, T: 5}, api.Sighting{X: 3, Y: 5, T: 5}, false, false},
		{100, api.Sighting{X: -1000, Y: -1000}, api.Sighting{X: 1000, Y: 1000, T: 40}, true, false},
		{100, api.Sighting{X: -1000, Y: -1000}, api.Sighting{X: 1000, Y: 1000, T: 39}, false, false},
		{99, api.Sighting{X: -1000, Y: -1000}, api.Sighting{X: 1000, Y: 1000, T: 40}, false, false},
		{1, api.Sighting{X: 1000, Y: -1000}, api.Sighting{X: -1000, Y: 1000, T: 4000}, true, false},
		{1, api.Sighting{X: 1000, Y: -1000}, api.Sighting{X: -1000, Y: 1000, T: 3999}, false, false},
	} {
		l := []api.Sighting{c.a, c.b}
		if is, e := wader.Leads(l, c.speed, 0, 1); is != c.there || e != api.OK {
			t.Errorf("Leads at %d from %v to %v: %v, error %d", c.speed, c.a, c.b, is, e)
		}
		if is, e := wader.Leads(l, c.speed, 1, 0); is != c.ago || e != api.OK {
			t.Errorf("Leads at %d from %v to %v: %v, error %d", c.speed, c.b, c.a, is, e)
		}
		for i := range 2 {
			if is, e := wader.Leads(l, c.speed, i, i); is || e != api.OK {
				t.Errorf("Leads at %d of %v to itself: %v, error %d", c.speed, l[i], is, e)
			}
		}
	}
}

// P6.2: what is no sighting.
func TestLeadsErrors(t *testing.T) {
	for _, count := range []int{0, 1, 3, 30} {
		l := make([]api.Sighting, count)
		for _, bad := range append([]int{-1, count, count + 1, 31}, farNumbers...) {
			for _, other := range append([]int{0, 1, count - 1, bad}, farNumbers...) {
				if is, e := wader.Leads(l, 5, bad, other); is || e != api.ErrArg {
					t.Errorf("Leads of %d sightings from %d to %d: %v, error %d", count, bad, other, is, e)
				}
				if is, e := wader.Leads(l, 5, other, bad); is || e != api.ErrArg {
					t.Errorf("Leads of %d sightings from %d to %d: %v, error %d", count, other, bad, is, e)
				}
			}
		}
	}
}

// checkLists looks at IsBird and AreApart of a list.
func checkLists(t *testing.T, w watch, l []int) {
	t.Helper()
	if is, e := wader.IsBird(w.l, w.speed, l); is != w.isBird(l) || e != api.OK {
		t.Errorf("IsBird(%v, %v): %v, error %d", w, cut(l), is, e)
	}
	if is, e := wader.AreApart(w.l, w.speed, l); is != w.areApart(l) || e != api.OK {
		t.Errorf("AreApart(%v, %v): %v, error %d", w, cut(l), is, e)
	}
}

// P6.2, P6.4: all short lists of sightings, and of what is none, for small watches.
func TestIsBirdAndAreApart(t *testing.T) {
	for i, w := range smallWatches() {
		if len(w.l) > 2 && i%13 > 0 {
			continue
		}
		for count := range len(w.l) + 2 {
			lists(count, -1, len(w.l), func(l []int) { checkLists(t, w, l) })
		}
	}
}

// P6.2, P6.4: all birds and all sightings that are apart of some watches, and
// lists that have one number more, another one, or two of them the other way round.
func TestIsBirdAndAreApartOfMany(t *testing.T) {
	for at, w := range larger() {
		if at%9 > 0 {
			continue
		}
		near := func(l []int) {
			checkLists(t, w, l)
			for i := range l {
				for _, k := range []int{-1, 0, i, l[i] + 1, len(w.l)} {
					other := slices.Clone(l)
					other[i] = k
					checkLists(t, w, other)
					checkLists(t, w, slices.Insert(slices.Clone(l), i, k))
				}
				other := slices.Clone(l)
				other[i], other[0] = other[0], other[i]
				checkLists(t, w, other)
			}
		}
		near(w.longest())
		for _, round := range w.rounds() {
			near(round)
		}
		if len(w.l) < 9 {
			w.birds(near)
			w.sets(near)
		}
	}
}

// P6.2, P6.4: lists that are looked at by hand.
func TestListExamples(t *testing.T) {
	w := watch{seen(0, 0, 0, 3, 0, 1, 4, 0, 2, 4, 0, 2), 2}
	for _, c := range []struct {
		l           []int
		bird, apart bool
	}{
		{nil, false, true},
		{[]int{}, false, true},
		{[]int{0}, true, true},
		{[]int{3}, true, true},
		{[]int{4}, false, false},
		{[]int{-1}, false, false},
		{[]int{0, 2}, true, false},
		{[]int{2, 0}, false, false},
		{[]int{0, 1}, false, true},
		{[]int{1, 0}, false, false},
		{[]int{0, 0}, false, false},
		{[]int{0, 2, 3}, true, false},
		{[]int{0, 3, 2}, false, false},
		{[]int{0, 2, 2}, false, false},
		{[]int{2, 3}, true, false},
		{[]int{3, 2}, false, false},
		{[]int{1, 3}, true, false},
		{[]int{0, 1, 3}, false, false},
		{[]int{0, 1, 4}, false, false},
		{[]int{-1, 0, 1}, false, false},
		{[]int{0, math.MaxInt}, false, false},
		{[]int{math.MinInt, 0}, false, false},
		{make([]int, 100000), false, false},
		{append([]int{0, 1}, make([]int, 100000)...), false, false},
	} {
		if w.isBird(c.l) != c.bird || len(c.l) < 9 && w.areApart(c.l) != c.apart {
			t.Fatalf("%v is a bird: %v, apart: %v", cut(c.l), !c.bird, !c.apart)
		}
		if is, e := wader.IsBird(w.l, w.speed, c.l); is != c.bird || e != api.OK {
			t.Errorf("IsBird of %v: %v, error %d", cut(c.l), is, e)
		}
		if is, e := wader.AreApart(w.l, w.speed, c.l); is != c.apart || e != api.OK {
			t.Errorf("AreApart of %v: %v, error %d", cut(c.l), is, e)
		}
	}
	for _, l := range [][]int{{0}, {-1}, {0, 1}} {
		checkLists(t, watch{nil, 5}, l)
	}
}

// spoil overwrites a result to show whether its memory is shared.
func spoil(l []int) {
	l = l[:cap(l)]
	for i := range l {
		l[i] = -99
	}
}

// R4: no call changes its arguments or gives out their memory, nor the same
// memory twice.
func TestWatchesAreKept(t *testing.T) {
	for _, x := range larger() {
		kept := append(slices.Clone(x.l), seen(77, 77, 77, 77, 77, 77)...)
		all := slices.Clone(kept)
		w := watch{all[:len(x.l)], x.speed}
		args := []int{0, 1, 2, 77, 77}
		list := args[:3]
		listed := [][]int{list[:1], list[1:2], list[2:], {77}}
		wader.Valid(w.l, w.speed)
		wader.Leads(w.l, w.speed, 0, 1)
		wader.IsBird(w.l, w.speed, list)
		wader.AreApart(w.l, w.speed, list)
		wader.Explain(w.l, w.speed, listed[:3])
		wader.AreRounds(w.l, w.speed, listed[:3])
		wader.Fewest(w.l, w.speed)
		l, _ := wader.Apart(w.l, w.speed)
		spoil(l)
		l, _ = wader.Longest(w.l, w.speed)
		spoil(l)
		birds, _ := wader.Birds(w.l, w.speed)
		rounds, _ := wader.Rounds(w.l, w.speed)
		for _, given := range [][][]int{birds, rounds} {
			for i := range given {
				first := slices.Clone(slices.Concat(given[i+1:]...))
				spoil(given[i])
				if !slices.Equal(first, slices.Concat(given[i+1:]...)) {
					t.Errorf("lists of a result share memory: %v", given)
				}
			}
		}
		if !slices.Equal(all, kept) || !slices.Equal(args, []int{0, 1, 2, 77, 77}) || len(listed[2]) != 1 || listed[3][0] != 77 {
			t.Errorf("arguments are changed: %v, %v, %v", all, args, listed)
		}
	}
}

// Equal calls have equal results, one after the other.
func TestAgain(t *testing.T) {
	for _, w := range larger() {
		birds := value[[][]int](t, "Birds", w)(wader.Birds(w.l, w.speed))
		some := value[[]int](t, "Apart", w)(wader.Apart(w.l, w.speed))
		for range 3 {
			if l, e := wader.Birds(w.l, w.speed); !slices.EqualFunc(l, birds, slices.Equal) || e != api.OK {
				t.Errorf("Birds of %v: %v and %v", w, birds, l)
			}
			if l, e := wader.Apart(w.l, w.speed); !slices.Equal(l, some) || e != api.OK {
				t.Errorf("Apart of %v: %v and %v", w, some, l)
			}
		}
	}
}
