package dole_test

import (
	"math/rand/v2"
	"slices"
	"testing"

	"sedge/api"
	"sedge/dole"
)

// checkEnvies looks at Envies and Fair of a share-out.
func checkEnvies(t *testing.T, v table, share []int) {
	t.Helper()
	has := v.holdings(share)
	var want [][2]int
	for i := range v {
		for k := range v {
			if v.envies(has, i, k) {
				want = append(want, [2]int{i, k})
			}
		}
	}
	if l, e := dole.Envies(v, share); !slices.Equal(l, want) || e != api.OK {
		t.Errorf("Envies(%v, %v): %v, error %d, want %v", v, share, l, e, want)
	}
	if is, e := dole.Fair(v, share); is != v.fair(share) || e != api.OK {
		t.Errorf("Fair(%v, %v): %v, error %d", v, share, is, e)
	}
}

// P7.3: all share-outs of few strips, and some of many.
func TestEnvies(t *testing.T) {
	for _, v := range slices.Concat(smallTables(), someTables(500, 3, 5)) {
		v.shares(func(share []int) { checkEnvies(t, v, share) })
	}
	r := rand.New(rand.NewPCG(7, 3))
	for _, v := range larger() {
		for _, share := range v.someShares(r, 10) {
			checkEnvies(t, v, share)
		}
	}
}

// P7.3: share-outs that are looked at by hand.
func TestEnviesExamples(t *testing.T) {
	alike := table{{5, 5, 5, 5}, {5, 5, 5, 5}}
	for _, c := range []struct {
		v     table
		share []int
		envy  [][2]int
		fair  bool
	}{
		{table{{5, 4, 1}, {6, 2, 2}}, []int{0, 1, 0}, [][2]int{{1, 0}}, true},
		{table{{5, 4, 1}, {6, 2, 2}}, []int{0, 0, 0}, [][2]int{{1, 0}}, false},
		{table{{5, 4, 1}, {6, 0, 0}}, []int{0, 0, 0}, [][2]int{{1, 0}}, true}, // without strip 0 the rest is worth nothing
		{table{{5, 4, 1}, {0, 0, 0}}, []int{0, 0, 0}, nil, true},
		{table{{5, 4, 1}, {0, 0, 1}}, []int{0, 0, 0}, [][2]int{{1, 0}}, true},
		{table{{5, 4, 1}, {0, 1, 1}}, []int{0, 0, 0}, [][2]int{{1, 0}}, false},
		{alike, []int{0, 0, 1, 1}, nil, true},
		{alike, []int{0, 0, 0, 1}, [][2]int{{1, 0}}, false},
		{alike, []int{1, 0, 1, 1}, [][2]int{{0, 1}}, false},
		{table{{5, 5, 5, 6}, {5, 5, 5, 6}}, []int{0, 1, 1, 0}, [][2]int{{1, 0}}, true},
		{table{{5, 5, 5}, {5, 5, 5}, {5, 5, 5}}, []int{0, 1, 2}, nil, true},
		{table{{5, 5, 5}, {5, 5, 5}, {5, 5, 5}}, []int{2, 1, 2}, [][2]int{{0, 1}, {0, 2}, {1, 2}}, false},
		{table{{9, 5, 1}, {9, 5, 1}, {9, 5, 1}}, []int{1, 2, 0}, [][2]int{{0, 1}, {0, 2}, {2, 1}}, true},
		{table{{1, 9}, {9, 1}}, []int{0, 1}, [][2]int{{0, 1}, {1, 0}}, true},
		{table{{1, 9}, {9, 1}}, []int{1, 0}, nil, true},
		{table{{10, 3, 3, 3}, {1, 1, 1, 1}}, []int{0, 1, 1, 1}, nil, true},
		{table{{8, 3, 3, 3}, {1, 1, 1, 1}}, []int{0, 1, 1, 1}, [][2]int{{0, 1}}, true},
		{table{{6, 3, 3, 3}, {1, 1, 1, 1}}, []int{0, 1, 1, 1}, [][2]int{{0, 1}}, true},
		{table{{5, 3, 3, 3}, {1, 1, 1, 1}}, []int{0, 1, 1, 1}, [][2]int{{0, 1}}, false},
		{table{{5, 3, 3, 4}, {1, 1, 1, 1}}, []int{0, 1, 1, 1}, [][2]int{{0, 1}}, false},
		{table{{5, 3, 2, 4}, {1, 1, 1, 1}}, []int{0, 1, 1, 1}, [][2]int{{0, 1}}, true},
		{table{nil, nil}, nil, nil, true},
		{table{{7}}, []int{0}, nil, true},
	} {
		if l, e := dole.Envies(c.v, c.share); !slices.Equal(l, c.envy) || e != api.OK {
			t.Errorf("Envies(%v, %v): %v, error %d", c.v, c.share, l, e)
		}
		if is, e := dole.Fair(c.v, c.share); is != c.fair || e != api.OK {
			t.Errorf("Fair(%v, %v): %v, error %d", c.v, c.share, is, e)
		}
	}
}

// checkTurn looks at Turn by a circle, and that it is better.
func checkTurn(t *testing.T, v table, share, circle []int) {
	t.Helper()
	l := value[[]int](t, "Turn", v)(dole.Turn(v, share, circle))
	if want := v.share(turned(v.holdings(share), circle)); !slices.Equal(l, want) {
		t.Errorf("Turn(%v, %v, %v): %v, want %v", v, share, circle, l, want)
	}
	if is, e := dole.Better(v, l, share); !is || e != api.OK {
		t.Errorf("Turn(%v, %v, %v): %v is better: %v, error %d", v, share, circle, l, is, e)
	}
	is, was := v.worths(l), v.worths(share)
	for _, c := range circle {
		if is[c] <= was[c] {
			t.Errorf("Turn(%v, %v, %v): %v is no more to %d", v, share, circle, l, c)
		}
	}
}

// checkCircle looks at Circle of a share-out, and what it gives if it is turned.
func checkCircle(t *testing.T, v table, share []int) {
	t.Helper()
	l := value[[]int](t, "Circle", v)(dole.Circle(v, share))
	if want := v.circle(v.holdings(share)); !slices.Equal(l, want) {
		t.Errorf("Circle(%v, %v): %v, want %v", v, share, l, want)
	}
	if len(l) > 0 {
		checkTurn(t, v, share, l)
	}
}

// P7.5, P7.10: all share-outs of few strips.
func TestCircle(t *testing.T) {
	for i, v := range slices.Concat(smallTables(), someTables(300, 3, 5)) {
		if i%2 == 0 {
			v.shares(func(share []int) { checkCircle(t, v, share) })
		}
	}
}

// P7.5, P7.10: many strips, and any number of commoners.
func TestCircleOfMany(t *testing.T) {
	r := rand.New(rand.NewPCG(7, 5))
	for i, v := range slices.Concat(turning(300), limitTables(), someTables(300, api.MaxCommoners, api.MaxStrips)) {
		if len(v) < 5 || i%5 == 0 {
			for _, share := range v.someShares(r, 4) {
				checkCircle(t, v, share)
			}
		}
	}
}

// envious returns values with which the ones of a list of pairs envy the others,
// if everybody has its own strip.
func envious(count int, pairs ...[2]int) (table, []int) {
	v := make(table, count)
	var own []int
	for i := range v {
		v[i] = make([]int, count)
		v[i][i] = 5
		own = append(own, i)
	}
	for _, p := range pairs {
		v[p[0]][p[1]] = 6
	}
	return v, own
}

// P7.5: all ways to envy of four, and some of five and six.
func TestCircleOfAnyEnvy(t *testing.T) {
	check := func(count, set int) {
		var pairs [][2]int
		for i := range count {
			for k := range count {
				if i == k {
					continue
				}
				if set&1 == 1 {
					pairs = append(pairs, [2]int{i, k})
				}
				set >>= 1
			}
		}
		v, own := envious(count, pairs...)
		checkCircle(t, v, own)
		if l, e := dole.Envies(v, own); !slices.Equal(l, pairs) || e != api.OK {
			t.Errorf("Envies(%v, %v): %v, error %d", v, own, l, e)
		}
	}
	for set := range 1 << 12 {
		check(4, set)
	}
	r := rand.New(rand.NewPCG(7, 55))
	for range 300 {
		check(5, r.Int()&r.Int())
		check(6, r.Int()&r.Int()&r.Int())
		check(6, r.Int()&r.Int())
	}
}

// P7.5: circles that are looked at by hand.
func TestCircleExamples(t *testing.T) {
	for _, c := range []struct {
		count int
		pairs [][2]int
		want  []int
	}{
		{1, nil, nil},
		{2, nil, nil},
		{2, [][2]int{{0, 1}}, nil},
		{2, [][2]int{{1, 0}}, nil},
		{2, [][2]int{{0, 1}, {1, 0}}, []int{0, 1}},
		{3, [][2]int{{0, 1}, {1, 2}, {0, 2}}, nil},
		{3, [][2]int{{0, 1}, {1, 2}, {2, 0}}, []int{0, 1, 2}},
		{3, [][2]int{{0, 2}, {2, 1}, {1, 0}}, []int{0, 2, 1}},
		{3, [][2]int{{1, 2}, {2, 1}}, []int{1, 2}},
		{3, [][2]int{{0, 1}, {1, 2}, {2, 1}}, []int{1, 2}},
		{3, [][2]int{{0, 1}, {1, 2}, {2, 0}, {1, 0}}, []int{0, 1}},
		{3, [][2]int{{0, 1}, {1, 2}, {2, 0}, {0, 2}}, []int{0, 1, 2}},
		{3, [][2]int{{0, 2}, {2, 0}, {1, 2}, {2, 1}}, []int{0, 2}},
		{4, [][2]int{{0, 1}, {1, 2}, {2, 1}, {0, 3}, {3, 0}}, []int{0, 3}},
		{4, [][2]int{{2, 3}, {3, 2}, {1, 3}, {3, 1}}, []int{1, 3}},
		{6, [][2]int{{0, 5}, {5, 4}, {4, 3}, {3, 2}, {2, 1}, {1, 0}}, []int{0, 5, 4, 3, 2, 1}},
		{6, [][2]int{{4, 5}, {5, 4}}, []int{4, 5}},
		{6, [][2]int{{1, 5}, {5, 3}, {3, 1}, {0, 1}, {4, 5}, {5, 4}}, []int{1, 5, 3}},
	} {
		v, own := envious(c.count, c.pairs...)
		if l, e := dole.Circle(v, own); !slices.Equal(l, c.want) || e != api.OK {
			t.Errorf("Circle of %v: %v, error %d, want %v", c.pairs, l, e, c.want)
		}
	}
	v := table{{1, 2, 9, 9}, {9, 1, 2, 2}, {4, 4, 4, 4}}
	if l, e := dole.Turn(v, []int{0, 0, 1, 1}, []int{0, 1}); !slices.Equal(l, []int{1, 1, 0, 0}) || e != api.OK {
		t.Errorf("Turn: %v, error %d", l, e)
	}
	v = table{{1, 1, 9}, {9, 1, 1}, {4, 4, 4}}
	if l, e := dole.Turn(v, []int{0, 2, 1}, []int{0, 1}); !slices.Equal(l, []int{1, 2, 0}) || e != api.OK {
		t.Errorf("Turn: %v, error %d", l, e)
	}
}

// P7.5: all lists of a few numbers, which are circles or not.
func TestTurn(t *testing.T) {
	r := rand.New(rand.NewPCG(7, 1))
	for i, v := range slices.Concat(turning(60), smallTables()) {
		if len(v) > 4 || i%17 > 0 {
			continue
		}
		for _, share := range v.someShares(r, 2) {
			has := v.holdings(share)
			for count := range len(v) + 2 {
				lists(count, -1, len(v), func(l []int) {
					if v.isCircle(has, l) {
						checkTurn(t, v, share, l)
						return
					}
					if out, e := dole.Turn(v, share, l); len(out) != 0 || e != api.ErrArg {
						t.Errorf("Turn(%v, %v, %v): %v, error %d", v, share, l, out, e)
					}
				})
			}
		}
	}
}

// P7.5: circles of six, in any order, from any one of them on.
func TestTurnOfSix(t *testing.T) {
	r := rand.New(rand.NewPCG(7, 6))
	for range 40 {
		set := r.Int() | r.Int()
		var pairs [][2]int
		for i := range 36 {
			if set>>i&1 == 1 && i/6 != i%6 {
				pairs = append(pairs, [2]int{i / 6, i % 6})
			}
		}
		v, own := envious(6, pairs...)
		has := v.holdings(own)
		for _, l := range selections(6) {
			if v.isCircle(has, l) {
				checkTurn(t, v, own, l)
			} else if out, e := dole.Turn(v, own, l); len(out) != 0 || e != api.ErrArg {
				t.Errorf("Turn(%v, %v, %v): %v, error %d", v, own, l, out, e)
			}
		}
	}
}

// P7.5: what is no circle of envy for reasons of its own.
func TestTurnErrors(t *testing.T) {
	v, own := envious(3, [2]int{0, 1}, [2]int{1, 0}, [2]int{1, 2}, [2]int{2, 1})
	bad := [][]int{nil, {}, {0}, {1}, {1, 0}, {2, 1}, {0, 2}, {0, 1, 2}, {0, 0}, {0, 1, 0}, {0, 1, 1}, {0, 1, 0, 1}, {0, 1, 2, 1}, {1, 2, 1, 0}, {0, 1, 3}, {-1, 0}, {3, 4}, {0, 3}, make([]int, 100000), append([]int{0, 1}, make([]int, 100000)...), slices.Repeat([]int{0, 1}, 50000)}
	for _, n := range farNumbers {
		bad = append(bad, []int{n}, []int{0, n}, []int{n, 0}, []int{0, 1, n}, []int{n, n}, []int{n, 0, 1})
	}
	for _, l := range bad {
		if out, e := dole.Turn(v, own, l); len(out) != 0 || e != api.ErrArg {
			t.Errorf("Turn by %v: %v, error %d", cut(l), out, e)
		}
	}
	for _, l := range [][]int{{0, 1}, {1, 2}} {
		checkTurn(t, v, own, l)
	}
	for _, v := range []table{{nil}, {nil, nil}, {{5}}} {
		if out, e := dole.Turn(v, make([]int, len(v[0])), []int{0, 1}); len(out) != 0 || e != api.ErrArg {
			t.Errorf("Turn of %v: %v, error %d", v, out, e)
		}
	}
}

// checkBetter looks at Better of two share-outs.
func checkBetter(t *testing.T, v table, a, b []int) {
	t.Helper()
	want := better(v.worths(a), v.worths(b))
	if is, e := dole.Better(v, a, b); is != want || e != api.OK {
		t.Errorf("Better(%v, %v, %v): %v, error %d", v, a, b, is, e)
	}
}

// P7.8: all two share-outs of few strips, and some of many.
func TestBetter(t *testing.T) {
	for i, v := range smallTables() {
		if i%7 == 0 {
			v.shares(func(a []int) {
				a = slices.Clone(a)
				v.shares(func(b []int) { checkBetter(t, v, a, b) })
			})
		}
	}
	r := rand.New(rand.NewPCG(7, 8))
	for _, v := range larger() {
		some := v.someShares(r, 5)
		for _, a := range some {
			for _, b := range some {
				checkBetter(t, v, a, b)
			}
		}
	}
}

// P7.8: share-outs that are looked at by hand, and errors of both.
func TestBetterExamples(t *testing.T) {
	v := table{{5, 4, 1}, {6, 2, 2}}
	for _, c := range []struct {
		a, b []int
		want bool
	}{
		{[]int{0, 1, 0}, []int{0, 1, 0}, false},
		{[]int{1, 0, 0}, []int{1, 1, 1}, false},
		{[]int{0, 0, 1}, []int{0, 1, 0}, true}, // 9 and 2 for 6 and 2
		{[]int{0, 1, 0}, []int{0, 0, 1}, false},
		{[]int{0, 0, 0}, []int{0, 1, 0}, false},
		{[]int{1, 0, 1}, []int{1, 1, 1}, false}, // 4 and 8 for 0 and 10
		{[]int{1, 0, 0}, []int{1, 0, 1}, false},
		{[]int{0, 0, 1}, []int{1, 0, 0}, false},
	} {
		checkBetter(t, v, c.a, c.b)
		if is, e := dole.Better(v, c.a, c.b); is != c.want || e != api.OK {
			t.Errorf("Better(%v, %v): %v, error %d", c.a, c.b, is, e)
		}
	}
	other := table{{1, 5}, {5, 1}}
	if is, e := dole.Better(other, []int{1, 0}, []int{0, 1}); !is || e != api.OK {
		t.Errorf("Better: %v, error %d", is, e)
	}
	for name, bad := range badShares() {
		for _, l := range [][]int{{0, 1, 0}, {0, 0, 1}, {1, 1, 1}, bad} {
			if is, e := dole.Better(v, bad, l); is || e != api.ErrShare {
				t.Errorf("Better of %s: %v, error %d", name, is, e)
			}
			if is, e := dole.Better(v, l, bad); is || e != api.ErrShare {
				t.Errorf("Better than %s: %v, error %d", name, is, e)
			}
		}
	}
}
