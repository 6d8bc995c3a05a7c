package dole_test

import (
	"math"
	"math/rand/v2"
	"slices"
	"testing"

	"sedge/api"
	"sedge/dole"
)

// rows are all short ones of low values, drawn ones, and those at the limits.
func rows() [][]int {
	out := [][]int{nil, {}, {0}, {1000}, make([]int, 12), slices.Repeat([]int{1000}, 12), append(make([]int, 11), 1000), {1, 2, 4, 8, 16, 32, 64, 128, 256, 512, 1000, 999}}
	for count := range 6 {
		lists(count, 0, 4, func(l []int) { out = append(out, slices.Clone(l)) })
	}
	r := rand.New(rand.NewPCG(7, 7))
	for range 150 {
		l := make([]int, r.IntN(api.MaxStrips+1))
		wide := []int{2, 10, 100, 1001}[r.IntN(4)]
		for i := range l {
			l[i] = r.IntN(wide)
		}
		out = append(out, l)
	}
	return out
}

// P7.7: the parts of a row.
func TestHalves(t *testing.T) {
	for _, row := range rows() {
		part, n := halves(row)
		if p, least, e := dole.Halves(row); !slices.Equal(p, part) || least != n || e != api.OK {
			t.Errorf("Halves of %v: %v, %d, error %d, want %v, %d", row, p, least, e, part, n)
		}
	}
}

// P7.7: the chapter's second example, and others that are looked at by hand.
func TestHalvesExamples(t *testing.T) {
	for _, c := range []struct {
		row  []int
		part []bool
		want int
	}{
		{[]int{5, 4, 3, 2}, []bool{false, true, true, false}, 7},
		{nil, nil, 0},
		{[]int{7}, []bool{false}, 0},
		{[]int{0}, []bool{false}, 0},
		{[]int{0, 0, 0}, []bool{false, false, false}, 0},
		{[]int{0, 7, 0}, []bool{false, false, false}, 0},
		{[]int{1, 1}, []bool{false, true}, 1},
		{[]int{1, 1, 1}, []bool{false, false, true}, 1},
		{[]int{1, 1, 1, 1}, []bool{false, false, true, true}, 2},
		{[]int{0, 1, 1}, []bool{false, false, true}, 1},
		{[]int{9, 2, 3}, []bool{false, true, true}, 5},
		{[]int{2, 3, 9}, []bool{false, false, true}, 5},
		{[]int{3, 9, 2}, []bool{false, true, false}, 5},
		{[]int{1000, 1, 1000}, []bool{false, false, true}, 1000},
		{[]int{1000, 1, 1, 1000}, []bool{false, false, true, true}, 1001},
		{make([]int, 12), make([]bool, 12), 0},
		{slices.Repeat([]int{1000}, 12), append(make([]bool, 6), true, true, true, true, true, true), 6000},
	} {
		if p, n, e := dole.Halves(c.row); !slices.Equal(p, c.part) || n != c.want || e != api.OK {
			t.Errorf("Halves of %v: %v, %d, error %d", c.row, p, n, e)
		}
	}
}

// P7.7: rows that are none.
func TestHalvesErrors(t *testing.T) {
	bad := [][]int{make([]int, 13), make([]int, 100000), append(make([]int, 12), -1), slices.Repeat([]int{math.MaxInt}, 12)}
	for _, n := range append([]int{-1, 1001}, farNumbers...) {
		bad = append(bad, []int{n}, []int{n, 1, 2}, []int{1, n, 2}, []int{1, 2, n}, append(make([]int, 11), n))
	}
	for _, row := range bad {
		if p, n, e := dole.Halves(row); len(p) != 0 || n != 0 || e != api.ErrArg {
			t.Errorf("Halves of %v: %v, %d, error %d", cut(row), p, n, e)
		}
	}
}

// checkTwo looks at Two, that the second one does not envy the first one, and
// that the first one has what it is promised.
func checkTwo(t *testing.T, v table) {
	t.Helper()
	l := value[[]int](t, "Two", v)(dole.Two(v))
	if want := v.two(); !slices.Equal(l, want) {
		t.Errorf("Two of %v: %v, want %v", v, l, want)
	}
	has := v.holdings(l)
	if v.envies(has, 1, 0) {
		t.Errorf("Two of %v: %v, the second one envies the first one", v, l)
	}
	if _, least, e := dole.Halves(v[0]); v.worth(0, has[0]) < least || e != api.OK {
		t.Errorf("Two of %v: %v, the first one has less than %d, error %d", v, l, least, e)
	}
}

// P7.7, P7.11: all two rows of few strips, and some of many.
func TestTwo(t *testing.T) {
	for _, v := range slices.Concat(smallTables(), someTables(700, 3, api.MaxStrips), limitTables()) {
		if len(v) == 2 {
			checkTwo(t, v)
		} else if l, e := dole.Two(v); len(l) != 0 || e != api.ErrArg {
			t.Errorf("Two of %v: %v, error %d", v, l, e)
		}
	}
}

// P7.11: no share-out between equal rows gives the lesser worth more.
func TestTwoOfEqualRows(t *testing.T) {
	for i, row := range rows() {
		if len(row) > 9 && i%10 > 0 {
			continue
		}
		v := table{row, slices.Clone(row)}
		checkTwo(t, v)
		least := slices.Min(v.worths(value[[]int](t, "Two", v)(dole.Two(v))))
		v.shares(func(share []int) {
			if n := slices.Min(v.worths(share)); n > least {
				t.Errorf("Two of %v: %d, but %v gives %d", v, least, share, n)
			}
		})
	}
}

// P7.7: who takes what, looked at by hand.
func TestTwoExamples(t *testing.T) {
	for _, c := range []struct {
		v    table
		want []int
	}{
		{table{{5, 4, 3, 2}, {1, 1, 1, 9}}, []int{1, 0, 0, 1}},
		{table{{5, 4, 3, 2}, {1, 1, 1, 1}}, []int{0, 1, 1, 0}},
		{table{{5, 4, 3, 2}, {1, 1, 1, 2}}, []int{1, 0, 0, 1}},
		{table{{5, 4, 3, 2}, {1, 2, 1, 1}}, []int{0, 1, 1, 0}},
		{table{{5, 4, 3, 2}, {0, 0, 0, 0}}, []int{0, 1, 1, 0}},
		{table{{0, 0}, {5, 5}}, []int{1, 1}},
		{table{{0, 0}, {0, 0}}, []int{0, 0}}, // nothing is in the part of the true ones
		{table{{7}, {9}}, []int{1}},
		{table{{7}, {0}}, []int{0}},
		{table{{1, 1}, {5, 5}}, []int{0, 1}},
		{table{{1, 1}, {6, 5}}, []int{1, 0}},
		{table{{9, 2, 3}, {9, 8, 3}}, []int{0, 1, 1}},
		{table{nil, nil}, nil},
	} {
		checkTwo(t, c.v)
		if l, e := dole.Two(c.v); !slices.Equal(l, c.want) || e != api.OK {
			t.Errorf("Two of %v: %v, error %d, want %v", c.v, l, e, c.want)
		}
	}
	for _, count := range []int{1, 3, 6} {
		for _, row := range [][]int{nil, {5}, {5, 4, 3, 2}} {
			if l, e := dole.Two(slices.Repeat([][]int{row}, count)); len(l) != 0 || e != api.ErrArg {
				t.Errorf("Two of %d: %v, error %d", count, l, e)
			}
		}
	}
}
