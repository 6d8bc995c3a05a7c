package wale_test

import (
	"math"
	"slices"
	"testing"

	"sedge/api"
	"sedge/wale"
)

// checkBest looks at Best and Plan for a number of years.
func checkBest(t *testing.T, r rotation, start, years int, want best) {
	t.Helper()
	err := api.OK
	if !want.is {
		want, err = best{}, api.ErrNone
	}
	if n, e := wale.Best(r.n, r.l, start, years); n != want.worth || e != err {
		t.Errorf("Best(%v, %d, %d): %d, error %d, want %d, %d", r, start, years, n, e, want.worth, err)
	}
	if l, e := wale.Plan(r.n, r.l, start, years); !slices.Equal(l, want.plan) || e != err {
		t.Errorf("Plan(%v, %d, %d): %v, error %d, want %v, %d", r, start, years, l, e, want.plan, err)
	}
}

// P5.3, P5.8: the first of all plans of a few years that are worth the most,
// and where all of them end.
func TestBest(t *testing.T) {
	for i, r := range slices.Concat(smallRotations(), someRotations(200)) {
		if r.n == 3 && len(r.l) == 3 && i%4 > 0 {
			continue
		}
		for start := range r.n {
			for years := range 5 {
				var want best
				var ends []int
				r.plans(start, years, func(plan []int) {
					if n := r.worth(plan); !want.is || n > want.worth {
						want = best{true, n, slices.Clone(plan)}
					}
					end := start
					if years > 0 {
						end = r.l[plan[years-1]].To
					}
					ends = append(ends, end)
				})
				checkBest(t, r, start, years, want)
				slices.Sort(ends)
				if l, e := wale.After(r.n, r.l, start, years); !slices.Equal(l, slices.Compact(ends)) || e != api.OK {
					t.Errorf("After(%v, %d, %d): %v, error %d, want %v", r, start, years, l, e, slices.Compact(ends))
				}
			}
		}
	}
}

// P5.3: any number of years, by plans that are put together from shorter ones.
func TestBestOfManyYears(t *testing.T) {
	for i, r := range slices.Concat(someRotations(60), limitRotations()) {
		all := r.firsts(100)
		for years := range all {
			if years > 20 && years < 98 && years%7 != i%7 {
				continue
			}
			for start, want := range all[years] {
				checkBest(t, r, start, years, want)
			}
		}
	}
}

// P5.3: the chapter's second example, and others that are counted by hand.
func TestBestExamples(t *testing.T) {
	r := rotation{2, changes(0, 0, 3, 0, 1, 0, 1, 0, 9)}
	chain := rotation{3, changes(0, 1, 5, 1, 2, 1, 0, 2, 9)}
	same := rotation{2, changes(0, 1, 4, 0, 0, 2, 0, 0, 2, 1, 1, 0, 1, 1, 0)}
	ties := rotation{2, changes(1, 0, 2, 0, 1, 2, 0, 0, 2, 1, 1, 2)}
	loss := rotation{3, changes(0, 1, -1, 0, 2, -1000, 1, 0, -1, 2, 2, 1000)}
	for _, c := range []struct {
		r            rotation
		start, years int
		want         best
	}{
		{r, 0, 3, best{true, 12, []int{0, 1, 2}}},
		{r, 0, 0, best{true, 0, nil}},
		{r, 1, 0, best{true, 0, nil}},
		{r, 0, 1, best{true, 3, []int{0}}},
		{r, 0, 2, best{true, 9, []int{1, 2}}},
		{r, 0, 4, best{true, 18, []int{1, 2, 1, 2}}},
		{r, 1, 1, best{true, 9, []int{2}}},
		{r, 1, 2, best{true, 12, []int{2, 0}}},
		{chain, 0, 1, best{true, 9, []int{2}}},
		{chain, 0, 2, best{true, 6, []int{0, 1}}},
		{chain, 0, 3, best{}},
		{chain, 1, 2, best{}},
		{chain, 2, 1, best{}},
		{chain, 2, 0, best{true, 0, nil}},
		{same, 0, 1, best{true, 4, []int{0}}},
		{same, 0, 2, best{true, 6, []int{1, 0}}},
		{same, 0, 3, best{true, 8, []int{1, 1, 0}}},
		{same, 1, 3, best{true, 0, []int{3, 3, 3}}},
		{ties, 0, 4, best{true, 8, []int{1, 0, 1, 0}}},
		{ties, 1, 3, best{true, 6, []int{0, 1, 0}}},
		{loss, 0, 1, best{true, -1, []int{0}}},
		{loss, 0, 2, best{true, 0, []int{1, 3}}},
		{loss, 0, 3, best{true, 1000, []int{1, 3, 3}}},
		{loss, 1, 2, best{true, -2, []int{2, 0}}},
		{rotation{n: 1}, 0, 0, best{true, 0, nil}},
		{rotation{n: 1}, 0, 1, best{}},
		{rotation{n: 1}, 0, 100, best{}},
		{rotation{1, changes(0, 0, 1000)}, 0, 100, best{true, 100000, make([]int, 100)}},
		{rotation{1, changes(0, 0, -1000)}, 0, 100, best{true, -100000, make([]int, 100)}},
	} {
		checkBest(t, c.r, c.start, c.years, c.want)
	}
}

// P5.3: the states and numbers of years that are none, ahead of ErrNone.
func TestYearsErrors(t *testing.T) {
	r := rotation{2, changes(0, 0, 1)}
	check := func(start, years int) {
		t.Helper()
		if n, e := wale.Best(r.n, r.l, start, years); n != 0 || e != api.ErrArg {
			t.Errorf("Best(%d, %d): %d, error %d", start, years, n, e)
		}
		if l, e := wale.Plan(r.n, r.l, start, years); len(l) != 0 || e != api.ErrArg {
			t.Errorf("Plan(%d, %d): %v, error %d", start, years, l, e)
		}
		if l, e := wale.After(r.n, r.l, start, years); len(l) != 0 || e != api.ErrArg {
			t.Errorf("After(%d, %d): %v, error %d", start, years, l, e)
		}
	}
	for _, bad := range append([]int{-1, 101, 102}, farNumbers...) {
		for _, start := range []int{0, 1, -1, 2, math.MaxInt} {
			check(start, bad)
		}
	}
	for _, bad := range append([]int{-1, 2, 3, 8}, farNumbers...) {
		for _, years := range []int{0, 1, 100, 101, -1} {
			check(bad, years)
		}
	}
}

// P5.3, P5.8: where plans of any number of years end, also in two steps.
func TestAfter(t *testing.T) {
	for _, r := range slices.Concat(someRotations(100), limitRotations()) {
		all := r.after(100)
		for _, years := range []int{0, 1, 2, 3, 4, 5, 6, 7, 8, 9, 10, 31, 50, 99, 100} {
			for start, want := range all[years] {
				if l, e := wale.After(r.n, r.l, start, years); !slices.Equal(l, want) || e != api.OK {
					t.Errorf("After(%v, %d, %d): %v, error %d, want %v", r, start, years, l, e, want)
				}
				for _, first := range []int{0, 1, years / 2, years} {
					var l []int
					for _, state := range value[[]int](t, "After", r)(wale.After(r.n, r.l, start, min(first, years))) {
						l = append(l, value[[]int](t, "After", r)(wale.After(r.n, r.l, state, years-min(first, years)))...)
					}
					slices.Sort(l)
					if !slices.Equal(slices.Compact(l), want) {
						t.Errorf("After(%v, %d, %d and %d): %v, want %v", r, start, first, years-first, l, want)
					}
				}
			}
		}
	}
	chain := rotation{3, changes(0, 2, 5, 1, 2, 1, 0, 1, 9)}
	for years, want := range [][]int{{0}, {1, 2}, {2}, nil, nil} {
		if l, e := wale.After(chain.n, chain.l, 0, years); !slices.Equal(l, want) || e != api.OK {
			t.Errorf("After %d years of the chain: %v, error %d", years, l, e)
		}
	}
}

// P5.8: IsPlan accepts Plan, its Worth is Best, and Best is the worth of its
// first change and Best of what is left.
func TestPlansAgree(t *testing.T) {
	for i, r := range larger() {
		for start := range r.n {
			for _, years := range []int{1, 2, 7, 8, 9, 30 + i%70, 100} {
				most, e := wale.Best(r.n, r.l, start, years)
				plan, f := wale.Plan(r.n, r.l, start, years)
				if e != f || e == api.ErrNone && len(plan) == 0 {
					continue
				}
				is, g := wale.IsPlan(r.n, r.l, start, plan)
				n, h := wale.Worth(r.n, r.l, start, plan)
				if !is || n != most || len(plan) != years || g != api.OK || h != api.OK {
					t.Errorf("Plan(%v, %d, %d): %v is one: %v, worth %d, Best %d", r, start, years, plan, is, n, most)
				}
				first := r.l[plan[0]]
				if rest, e := wale.Best(r.n, r.l, first.To, years-1); first.Worth+rest != most || e != api.OK {
					t.Errorf("Best(%v, %d, %d): %d, but %d behind %v", r, start, years, most, rest, first)
				}
				for _, c := range r.l {
					if rest, e := wale.Best(r.n, r.l, c.To, years-1); c.From == start && e == api.OK && c.Worth+rest > most {
						t.Errorf("Best(%v, %d, %d): %d, but %d behind %v", r, start, years, most, rest, c)
					}
				}
			}
		}
	}
}

// P5.4, P5.11: the states from which there is no plan of n changes.
func TestEnds(t *testing.T) {
	for _, r := range rotations() {
		ends, e := wale.Ends(r.n, r.l)
		if !slices.Equal(ends, r.ends()) || e != api.OK {
			t.Errorf("Ends of %v: %v, error %d, want %v", r, ends, e, r.ends())
		}
		for start := range r.n {
			want := api.OK
			if slices.Contains(ends, start) {
				want = api.ErrNone
			}
			for _, years := range []int{r.n, r.n + 1, 100} {
				l, e := wale.After(r.n, r.l, start, years)
				if _, f := wale.Best(r.n, r.l, start, years); (len(l) == 0) != (want == api.ErrNone) || e != api.OK || f != want {
					t.Errorf("After(%v, %d, %d): %v, error %d, Best: error %d; ends %v", r, start, years, l, e, f, ends)
				}
			}
			if l, e := wale.After(r.n, r.l, start, r.n-1); want == api.OK && len(l) == 0 || e != api.OK {
				t.Errorf("After(%v, %d, %d): %v, error %d", r, start, r.n-1, l, e)
			}
		}
		if _, e := wale.Circle(r.n, r.l); (e == api.OK) != (len(ends) < r.n) {
			t.Errorf("Circle of %v: error %d; ends %v", r, e, ends)
		}
	}
}

// P5.4: ends that are found by hand.
func TestEndsExamples(t *testing.T) {
	for _, c := range []struct {
		r    rotation
		want []int
	}{
		{rotation{n: 1}, []int{0}},
		{rotation{n: 8}, []int{0, 1, 2, 3, 4, 5, 6, 7}},
		{rotation{1, changes(0, 0, -1000)}, nil},
		{rotation{2, changes(0, 1, 1)}, []int{0, 1}},
		{rotation{2, changes(0, 1, 1, 1, 0, 1)}, nil},
		{rotation{3, changes(0, 1, 1, 1, 1, 1)}, []int{2}},
		{rotation{3, changes(0, 1, 1, 1, 2, 1, 0, 2, 1)}, []int{0, 1, 2}},
		{rotation{4, changes(2, 2, 0, 2, 0, 0, 1, 2, 0, 3, 0, 0)}, []int{0, 3}},
		{rotation{8, changes(0, 1, 0, 1, 2, 0, 2, 3, 0, 3, 4, 0, 4, 5, 0, 5, 6, 0, 6, 7, 0)}, []int{0, 1, 2, 3, 4, 5, 6, 7}}, // from 0 there is a plan of 7 changes
		{rotation{8, changes(0, 1, 0, 1, 2, 0, 2, 3, 0, 3, 4, 0, 4, 5, 0, 5, 6, 0, 6, 7, 0, 7, 7, 0)}, nil},
	} {
		if l, e := wale.Ends(c.r.n, c.r.l); !slices.Equal(l, c.want) || e != api.OK {
			t.Errorf("Ends of %v: %v, error %d, want %v", c.r, l, e, c.want)
		}
	}
}
