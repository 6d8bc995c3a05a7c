package dole_test

import (
	"math/rand/v2"
	"slices"
	"testing"

	"sedge/api"
	"sedge/dole"
)

// checkPick looks at Pick by an order, and that what each one picks first is
// worth most to it of all that it gets.
func checkPick(t *testing.T, v table, order []int) {
	t.Helper()
	l := value[[]int](t, "Pick", v)(dole.Pick(v, order))
	if want := v.pick(order); !slices.Equal(l, want) {
		t.Errorf("Pick(%v, %v): %v, want %v", v, order, l, want)
	}
	for at, c := range order {
		if slices.Contains(order[:at], c) {
			continue
		}
		got := v.holdings(l)[c]
		most := slices.MaxFunc(got, func(a, b int) int { return v[c][a] - v[c][b] })
		taken := make([]bool, len(l))
		for _, other := range v.until(order[:at]) {
			taken[other] = true
		}
		for strip := range l {
			if !taken[strip] && v[c][strip] > v[c][most] {
				t.Errorf("Pick(%v, %v): %v, and %d has not strip %d", v, order, l, c, strip)
			}
		}
	}
}

// until returns the strips that are picked by the beginning of an order.
func (v table) until(order []int) []int {
	var out []int
	for _, c := range order {
		best := -1
		for strip := range v[c] {
			if !slices.Contains(out, strip) && (best < 0 || v[c][strip] > v[c][best]) {
				best = strip
			}
		}
		out = append(out, best)
	}
	return out
}

// P7.4, P7.12: all orders of few strips, and some of many.
func TestPick(t *testing.T) {
	for i, v := range slices.Concat(smallTables(), someTables(300, 3, 5)) {
		if i%2 == 0 {
			v.shares(func(order []int) { checkPick(t, v, order) })
		}
	}
	r := rand.New(rand.NewPCG(7, 4))
	for _, v := range larger() {
		for _, order := range v.someShares(r, 5) {
			checkPick(t, v, order)
		}
	}
}

// P7.4: picks that are looked at by hand.
func TestPickExamples(t *testing.T) {
	v := table{{5, 4, 1}, {6, 2, 2}}
	for _, c := range []struct {
		v           table
		order, want []int
	}{
		{v, []int{1, 1, 0}, []int{1, 1, 0}},
		{v, []int{0, 0, 1}, []int{0, 0, 1}},
		{v, []int{0, 1, 0}, []int{0, 1, 0}},
		{v, []int{0, 1, 1}, []int{0, 1, 1}},
		{v, []int{1, 0, 0}, []int{1, 0, 0}},
		{v, []int{1, 0, 1}, []int{1, 0, 1}},
		{v, []int{0, 0, 0}, []int{0, 0, 0}},
		{table{nil}, nil, nil},
		{table{nil, nil}, []int{}, nil},
		{table{{0, 0, 0}, {0, 0, 0}}, []int{1, 0, 1}, []int{1, 0, 1}},
		{table{{0, 0, 3}, {0, 1000, 999}}, []int{1, 1, 0}, []int{0, 1, 1}},
		{table{{1, 2, 3, 4}, {4, 3, 2, 1}, {2, 2, 2, 2}}, []int{2, 1, 1, 0}, []int{2, 1, 1, 0}},
		{table{{1, 2, 3, 4}, {4, 3, 2, 1}, {2, 2, 2, 2}}, []int{1, 2, 2, 0}, []int{1, 2, 2, 0}},
		{table{{1, 2, 3, 4}, {4, 3, 2, 1}, {2, 2, 2, 2}}, []int{0, 0, 1, 2}, []int{1, 2, 0, 0}},
	} {
		if l, e := dole.Pick(c.v, c.order); !slices.Equal(l, c.want) || e != api.OK {
			t.Errorf("Pick(%v, %v): %v, error %d, want %v", c.v, c.order, l, e, c.want)
		}
	}
}

// P7.4: orders that have no commoner for each strip.
func TestPickErrors(t *testing.T) {
	for name, l := range badShares() {
		if out, e := dole.Pick(someThree(), l); len(out) != 0 || e != api.ErrArg {
			t.Errorf("Pick by %s: %v, error %d", name, out, e)
		}
	}
	for _, v := range []table{{nil}, {nil, nil, nil}} {
		for _, l := range [][]int{{0}, {-1}, make([]int, 13)} {
			if out, e := dole.Pick(v, l); len(out) != 0 || e != api.ErrArg {
				t.Errorf("Pick(%v, %v): %v, error %d", v, l, out, e)
			}
		}
	}
}

// checkFair looks at Fair of a share-out.
func checkFair(t *testing.T, what string, v table, share []int) {
	t.Helper()
	if is, e := dole.Fair(v, share); !is || e != api.OK || !v.fair(share) {
		t.Errorf("%s of %v: %v is fair: %v, error %d", what, v, share, is, e)
	}
}

// P7.4, P7.10: what is picked in turn, which is fair, and the first one envies nobody.
func TestInTurn(t *testing.T) {
	for _, v := range tables() {
		l := value[[]int](t, "InTurn", v)(dole.InTurn(v))
		if want := v.pick(v.inTurn()); !slices.Equal(l, want) {
			t.Errorf("InTurn of %v: %v, want %v", v, l, want)
		}
		checkFair(t, "InTurn", v, l)
		for _, p := range value[[][2]int](t, "Envies", v)(dole.Envies(v, l)) {
			if p[0] == 0 {
				t.Errorf("InTurn of %v: %v, 0 envies %d", v, l, p[1])
			}
		}
	}
}

// P7.4: the chapter's first example, and others that are looked at by hand.
func TestInTurnExamples(t *testing.T) {
	for _, c := range []struct {
		v    table
		want []int
	}{
		{table{{5, 4, 1}, {6, 2, 2}}, []int{0, 1, 0}},
		{table{{1, 2, 3, 4}, {4, 3, 2, 1}, {1, 1, 1, 1}}, []int{1, 2, 0, 0}},
		{table{{1, 2, 3, 4}, {1, 2, 3, 4}}, []int{1, 0, 1, 0}},
		{table{{4, 4, 4, 4}, {4, 4, 4, 4}}, []int{0, 1, 0, 1}},
		{table{{4, 4}, {4, 4}, {4, 4}}, []int{0, 1}},
		{table{{4, 4, 5}}, []int{0, 0, 0}},
		{table{{9}, {10}}, []int{0}},
		{table{nil, nil}, nil},
	} {
		if l, e := dole.InTurn(c.v); !slices.Equal(l, c.want) || e != api.OK {
			t.Errorf("InTurn of %v: %v, error %d, want %v", c.v, l, e, c.want)
		}
	}
}

// P7.6, P7.10: what is given strip by strip, which is fair.
func TestGive(t *testing.T) {
	turns := 0
	for i, v := range slices.Concat(smallTables(), turning(300), someTables(500, 4, api.MaxStrips), limitTables()) {
		if len(v) > 4 && i%3 > 0 {
			continue
		}
		l := value[[]int](t, "Give", v)(dole.Give(v))
		want := v.give()
		if !slices.Equal(l, want) {
			t.Errorf("Give of %v: %v, want %v", v, l, want)
		}
		checkFair(t, "Give", v, l)
		if c := v.circle(v.holdings(l)); c != nil {
			turns++
		}
	}
	if turns == 0 {
		t.Error("all that was given is without a circle of envy")
	}
}

// P7.6, P7.10: any values.
func TestGiveOfMany(t *testing.T) {
	for _, v := range slices.Concat(turning(3000), someTables(3000, api.MaxCommoners, api.MaxStrips)) {
		checkFair(t, "Give", v, value[[]int](t, "Give", v)(dole.Give(v)))
	}
}

// P7.6: what is given, looked at by hand.
func TestGiveExamples(t *testing.T) {
	for _, c := range []struct {
		v    table
		want []int
	}{
		{table{nil}, nil},
		{table{nil, nil, nil}, nil},
		{table{{5}}, []int{0}},
		{table{{5, 0, 7}}, []int{0, 0, 0}},
		{table{{0, 0, 0}, {0, 0, 0}}, []int{0, 0, 0}},
		{table{{0, 1, 1}, {0, 1, 1}}, []int{0, 0, 1}},
		{table{{5, 4, 1}, {6, 2, 2}}, []int{0, 1, 1}},
		{table{{1, 9, 3}, {9, 1, 3}}, []int{1, 0, 0}},                                    // turned ahead of the last strip
		{table{{1, 9}, {9, 1}}, []int{0, 1}},                                             // nothing is turned behind it
		{table{{9, 1}, {1, 9}}, []int{0, 1}},                                             // 1 envies 0 for what it likes little, too
		{table{{9, 1}, {0, 9}}, []int{0, 0}},                                             // and not for what is yet to be given
		{table{{1, 5, 0, 3}, {0, 1, 5, 3}, {5, 0, 1, 3}}, []int{2, 0, 1, 0}},             // round a circle of three
		{table{{3, 3, 3, 3}, {3, 3, 3, 3}, {3, 3, 3, 3}}, []int{0, 1, 2, 0}},             // in turn, if all are alike
		{table{{0, 8, 0, 8}, {4, 0, 0, 0}}, []int{1, 0, 0, 0}},                           // each one with what it wants
		{table{{1, 2, 2, 9}, {1, 1, 1, 1}, {1, 1, 1, 1}}, []int{0, 1, 2, 0}},             // 0 envies both, and nobody 0
		{table{{2, 3, 9, 9, 1}, {3, 2, 9, 9, 1}, {0, 0, 0, 0, 0}}, []int{1, 0, 0, 1, 0}}, // who wants nothing gets nothing
	} {
		want := c.v.give()
		l, e := dole.Give(c.v)
		if e != api.OK || !slices.Equal(l, c.want) || !slices.Equal(l, want) {
			t.Errorf("Give of %v: %v, error %d, want %v, %v", c.v, l, e, c.want, want)
		}
	}
}
