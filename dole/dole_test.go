package dole_test

import (
	"math/rand/v2"
	"slices"
	"testing"

	"sedge/api"
	"sedge/dole"
)

// P7.2: values at the limits, and those that are not valid.
func TestValid(t *testing.T) {
	for _, v := range tables() {
		if !dole.Valid(v) {
			t.Errorf("%v is not valid", v)
		}
	}
	for name, v := range map[string]table{
		"one commoner":        {{5}},
		"without strips":      {nil},
		"nil and empty":       {nil, {}, nil},
		"six commoners":       make(table, 6),
		"six with twelve":     {make([]int, 12), make([]int, 12), make([]int, 12), make([]int, 12), make([]int, 12), make([]int, 12)},
		"the least":           {{0}},
		"the greatest":        {{1000, 0}, {0, 1000}},
		"more behind a limit": {make([]int, 12, 20)[:12], make([]int, 13)[:12]},
	} {
		if !dole.Valid(v) {
			t.Errorf("%s: not valid", name)
		}
	}
	for name, v := range badTables() {
		if dole.Valid(v) {
			t.Errorf("%s: valid", name)
		}
	}
}

// allCalls calls f with each function that is given values, a list and a circle.
func allCalls(v [][]int, l, circle []int, f func(what string, zero bool, e api.Errno)) {
	is, e := dole.IsShare(v, l)
	f("IsShare", !is, e)
	out, e := dole.Pick(v, l)
	f("Pick", len(out) == 0, e)
	out, e = dole.InTurn(v)
	f("InTurn", len(out) == 0, e)
	out, e = dole.Give(v)
	f("Give", len(out) == 0, e)
	out, e = dole.Two(v)
	f("Two", len(out) == 0, e)
	n, e := dole.Most(v)
	f("Most", n == 0, e)
	shareCalls(v, l, circle, f)
}

// shareCalls calls f with each function that is given a share-out.
func shareCalls(v [][]int, l, circle []int, f func(what string, zero bool, e api.Errno)) {
	out, e := dole.Worths(v, l)
	f("Worths", len(out) == 0, e)
	pairs, e := dole.Envies(v, l)
	f("Envies", len(pairs) == 0, e)
	is, e := dole.Fair(v, l)
	f("Fair", !is, e)
	out, e = dole.Circle(v, l)
	f("Circle", len(out) == 0, e)
	out, e = dole.Turn(v, l, circle)
	f("Turn", len(out) == 0, e)
	n, e := dole.Sum(v, l)
	f("Sum", n == 0, e)
	for _, other := range [][]int{{0, 1, 0}, {1, 1, 1}, nil, l, circle} {
		is, e = dole.Better(v, l, other)
		f("Better", !is, e)
		is, e = dole.Better(v, other, l)
		f("Better the other way round", !is, e)
	}
}

// P7.1, R2: ErrValues comes ahead of what is wrong beside it, and with nothing else.
func TestValuesErrors(t *testing.T) {
	for name, v := range badTables() {
		for _, l := range [][]int{nil, {0}, {0, 1, 0}, {0, 0, 0}, {7, -1}, make([]int, 13), make([]int, 100000)} {
			for _, circle := range [][]int{nil, {0, 1}, {0}, {1, 0}, {-1, 9}} {
				allCalls(v, l, circle, func(what string, zero bool, e api.Errno) {
					t.Helper()
					if !zero || e != api.ErrValues {
						t.Errorf("%s, %s: a result %v, error %d", what, name, !zero, e)
					}
				})
			}
		}
	}
}

// P7.1, R2: ErrShare comes ahead of what is wrong with a circle, and with nothing else.
func TestShareErrors(t *testing.T) {
	for name, l := range badShares() {
		if is, e := dole.IsShare(someThree(), l); is || e != api.OK {
			t.Errorf("IsShare, %s: %v, error %d", name, is, e)
		}
		for _, circle := range [][]int{nil, {0, 1}, {0}, {1, 0}, {-1, 9}} {
			shareCalls(someThree(), l, circle, func(what string, zero bool, e api.Errno) {
				t.Helper()
				if !zero || e != api.ErrShare {
					t.Errorf("%s, %s: a result %v, error %d", what, name, !zero, e)
				}
			})
		}
	}
}

// P7.2: all short lists, and long ones.
func TestIsShare(t *testing.T) {
	for i, v := range smallTables() {
		if i%7 > 0 {
			continue
		}
		for count := range len(v[0]) + 2 {
			lists(count, -1, len(v), func(l []int) {
				want := count == len(v[0]) && !slices.Contains(l, -1) && !slices.Contains(l, len(v))
				if is, e := dole.IsShare(v, l); is != want || e != api.OK {
					t.Errorf("IsShare(%v, %v): %v, error %d", v, l, is, e)
				}
			})
		}
	}
	r := rand.New(rand.NewPCG(7, 2))
	for _, v := range larger() {
		for _, l := range v.someShares(r, 5) {
			if is, e := dole.IsShare(v, l); !is || e != api.OK {
				t.Errorf("IsShare(%v, %v): %v, error %d", v, l, is, e)
			}
			if is, e := dole.IsShare(v, append(l, 0)); is || e != api.OK {
				t.Errorf("IsShare(%v, %v): %v, error %d", v, append(l, 0), is, e)
			}
		}
	}
}

// checkWorths looks at Worths and Sum of a share-out, and that Most is no less.
func checkWorths(t *testing.T, v table, share []int, most int) {
	t.Helper()
	l := value[[]int](t, "Worths", v)(dole.Worths(v, share))
	if !slices.Equal(l, v.worths(share)) {
		t.Errorf("Worths(%v, %v): %v, want %v", v, share, l, v.worths(share))
	}
	if n, e := dole.Sum(v, share); n != sum(l) || n > most || e != api.OK {
		t.Errorf("Sum(%v, %v): %d, error %d, want %d, at most %d", v, share, n, e, sum(l), most)
	}
}

// P7.2, P7.9: all share-outs of few strips.
func TestWorths(t *testing.T) {
	for _, v := range slices.Concat(smallTables(), someTables(500, 3, 5)) {
		most := value[int](t, "Most", v)(dole.Most(v))
		want := 0
		v.shares(func(share []int) {
			checkWorths(t, v, share, most)
			want = max(want, sum(v.worths(share)))
		})
		if most != want {
			t.Errorf("Most of %v: %d, want %d", v, most, want)
		}
	}
}

// P7.2, P7.9: any number of strips. Most is reached where each strip goes to one
// to whom no other one's value is greater.
func TestWorthsOfMany(t *testing.T) {
	r := rand.New(rand.NewPCG(7, 9))
	for _, v := range larger() {
		most := value[int](t, "Most", v)(dole.Most(v))
		for _, share := range v.someShares(r, 10) {
			checkWorths(t, v, share, most)
		}
		best := make([]int, len(v[0]))
		for strip := range best {
			for c := range v {
				if v[c][strip] > v[best[strip]][strip] {
					best[strip] = c
				}
			}
		}
		if n, e := dole.Sum(v, best); n != most || e != api.OK {
			t.Errorf("Most of %v: %d, Sum of %v %d, error %d", v, most, best, n, e)
		}
	}
}

// P7.9: all strips to one.
func TestAllToOne(t *testing.T) {
	for _, v := range tables() {
		for c, row := range v {
			want := make([]int, len(v))
			want[c] = sum(row)
			share := slices.Repeat([]int{c}, len(row))
			if l, e := dole.Worths(v, share); !slices.Equal(l, want) || e != api.OK {
				t.Errorf("Worths(%v, %v): %v, error %d", v, share, l, e)
			}
		}
	}
}

// P7.2: the chapter's first example, and others that are counted by hand.
func TestWorthsExamples(t *testing.T) {
	full := slices.Repeat([]int{1000}, 12)
	for _, c := range []struct {
		v         table
		share     []int
		worths    []int
		sum, most int
	}{
		{table{{5, 4, 1}, {6, 2, 2}}, []int{0, 1, 0}, []int{6, 2}, 8, 12},
		{table{{5, 4, 1}, {6, 2, 2}}, []int{1, 0, 1}, []int{4, 8}, 12, 12},
		{table{{5, 4, 1}, {6, 2, 2}}, []int{1, 1, 1}, []int{0, 10}, 10, 12},
		{table{{5, 4, 1}, {6, 2, 2}}, []int{0, 0, 0}, []int{10, 0}, 10, 12},
		{table{nil}, nil, []int{0}, 0, 0},
		{table{nil, nil, nil}, []int{}, []int{0, 0, 0}, 0, 0},
		{table{{7}}, []int{0}, []int{7}, 7, 7},
		{table{{7}, {9}, {8}}, []int{0}, []int{7, 0, 0}, 7, 9},
		{table{{7}, {9}, {8}}, []int{2}, []int{0, 0, 8}, 8, 9},
		{table{{1, 20, 300}, {300, 1, 20}, {20, 300, 1}}, []int{0, 1, 2}, []int{1, 1, 1}, 3, 900},
		{table{{1, 20, 300}, {300, 1, 20}, {20, 300, 1}}, []int{1, 2, 0}, []int{300, 300, 300}, 900, 900},
		{table{full, full, full, full, full, full}, []int{0, 1, 2, 3, 4, 5, 5, 4, 3, 2, 1, 5}, []int{1000, 2000, 2000, 2000, 2000, 3000}, 12000, 12000},
	} {
		if l, e := dole.Worths(c.v, c.share); !slices.Equal(l, c.worths) || e != api.OK {
			t.Errorf("Worths(%v, %v): %v, error %d", c.v, c.share, l, e)
		}
		if n, e := dole.Sum(c.v, c.share); n != c.sum || e != api.OK {
			t.Errorf("Sum(%v, %v): %d, error %d", c.v, c.share, n, e)
		}
		if n, e := dole.Most(c.v); n != c.most || e != api.OK {
			t.Errorf("Most of %v: %d, error %d", c.v, n, e)
		}
	}
}

// copied returns values that share no memory with others.
func copied(v table) table {
	out := slices.Clone(v)
	for i := range out {
		out[i] = slices.Clone(v[i])
	}
	return out
}

// same reports whether values are the same.
func same(a, b table) bool {
	return slices.EqualFunc(a, b, func(a, b []int) bool { return slices.Equal(a, b) })
}

// P7.2 to P7.8, R4: arguments are not changed, and a result shares no memory
// with them nor with another result.
func TestArgumentsStay(t *testing.T) {
	for _, v := range []table{{{1, 9, 3}, {9, 1, 3}}, {{0, 5, 0}, {0, 0, 5}, {5, 0, 0}}, {{1000, 0}, {0, 1000}}, {{0, 1000}, {1000, 0}}} {
		keep := copied(v)
		share, circle, row := v.inTurn(), []int{0, 1}, slices.Clone(v[0])
		if len(v) == 3 {
			circle = []int{0, 1, 2}
		}
		other := slices.Clone(share)
		calls := map[string]func() []int{
			"Worths": func() []int { l, _ := dole.Worths(v, share); return l },
			"Pick":   func() []int { l, _ := dole.Pick(v, share); return l },
			"InTurn": func() []int { l, _ := dole.InTurn(v); return l },
			"Give":   func() []int { l, _ := dole.Give(v); return l },
			"Circle": func() []int { l, _ := dole.Circle(v, share); return l },
			"Turn":   func() []int { l, _ := dole.Turn(v, share, circle); return l },
			"Two":    func() []int { l, _ := dole.Two(v); return l },
		}
		for name, call := range calls {
			was := slices.Clone(call())
			l := call()
			for i := range l {
				l[i] = -7
			}
			if !slices.Equal(call(), was) {
				t.Errorf("%s of %v: a result is kept", name, v)
			}
		}
		pairs, _ := dole.Envies(v, share)
		was := slices.Clone(pairs)
		clear(pairs)
		if again, _ := dole.Envies(v, share); !slices.Equal(again, was) {
			t.Errorf("Envies of %v: a result is kept", v)
		}
		part, _, _ := dole.Halves(row)
		half := slices.Clone(part)
		clear(part)
		if again, _, _ := dole.Halves(row); !slices.Equal(again, half) {
			t.Errorf("Halves of %v: a result is kept", row)
		}
		dole.IsShare(v, share)
		dole.Fair(v, share)
		dole.Sum(v, share)
		dole.Most(v)
		dole.Better(v, share, other)
		dole.Better(v, other, share)
		if !same(v, keep) || !slices.Equal(share, keep.inTurn()) || !slices.Equal(other, share) || !slices.Equal(row, keep[0]) || circle[0] != 0 || circle[1] != 1 || len(circle) > 2 && circle[2] != 2 {
			t.Errorf("arguments changed: %v, %v, %v, %v, %v, were %v", v, share, circle, row, other, keep)
		}
	}
}

// P7.2 to P7.8, R4: what lies behind the end of a list, and rows that are the
// same memory, play no part.
func TestMemoryOfArguments(t *testing.T) {
	row := []int{3, 1, 2, 9, 9, 9}[:3]
	v := table{row, row}
	share := []int{0, 1, 0, 1, 1}[:3]
	circle := []int{0, 1, 5}[:2]
	whole := share[:5]
	checkWorths(t, v, share, 6)
	for name, call := range map[string]func() ([]int, api.Errno){
		"InTurn": func() ([]int, api.Errno) { return dole.InTurn(v) },
		"Give":   func() ([]int, api.Errno) { return dole.Give(v) },
		"Pick":   func() ([]int, api.Errno) { return dole.Pick(v, share) },
		"Two":    func() ([]int, api.Errno) { return dole.Two(v) },
	} {
		if l, e := call(); len(l) != 3 || e != api.OK {
			t.Errorf("%s: %v, error %d", name, l, e)
		}
	}
	if l, e := dole.Turn(v, share, circle); len(l) != 0 || e != api.ErrArg {
		t.Errorf("Turn: %v, error %d", l, e)
	}
	swapped := table{{1, 4, 2}, {3, 1, 2}}
	if l, e := dole.Turn(swapped, share, circle); !slices.Equal(l, []int{1, 0, 1}) || e != api.OK {
		t.Errorf("Turn: %v, error %d", l, e)
	}
	if !slices.Equal(whole, []int{0, 1, 0, 1, 1}) || !slices.Equal(row[:6], []int{3, 1, 2, 9, 9, 9}) {
		t.Errorf("changed: %v, %v", whole, row[:6])
	}
}
