package wader_test

import (
	"math/rand/v2"
	"slices"
	"strconv"
	"testing"

	"sedge/api"
	"sedge/wader"
)

// squareDay is a square on a day.
type squareDay struct {
	at  api.XY
	day int
}

// closes returns what nests close: from each of them as many steps as it tells,
// on each of its days.
func closes(l []api.Nest) map[squareDay]bool {
	out := map[squareDay]bool{}
	for _, n := range l {
		for x := -n.R; x <= n.R; x++ {
			for y := -n.R; y <= n.R; y++ {
				for day := n.From; distance(0, 0, x, y) <= n.R && day <= n.To; day++ {
					out[squareDay{api.XY{X: n.X + x, Y: n.Y + y}, day}] = true
				}
			}
		}
	}
	return out
}

// someNests are small ones, few or many, about one place.
func someNests(r *rand.Rand, x, y, day int) []api.Nest {
	var l []api.Nest
	for range r.IntN([]int{3, 7}[r.IntN(2)]) {
		from := day + r.IntN(13)
		l = append(l, api.Nest{X: x + r.IntN(9) - 4, Y: y + r.IntN(9) - 4, From: from, To: from + r.IntN(6), R: r.IntN(5)})
	}
	return l
}

// P6.7, P6.11: all squares and days about small nests.
func TestNests(t *testing.T) {
	r := rand.New(rand.NewPCG(6, 7))
	for range 150 {
		x, y, first := r.IntN(3)*500-500, r.IntN(3)*500-500, r.IntN(100)
		l := someNests(r, x, y, first)
		all := closes(l)
		for range 60 {
			at := api.XY{X: x + r.IntN(15) - 7, Y: y + r.IntN(15) - 7}
			counts := []int{0}
			for day := range first + 25 {
				count := counts[day]
				if all[squareDay{at, day}] {
					count++
				}
				counts = append(counts, count)
				if is, e := wader.Closed(l, at, day); is != (count > counts[day]) || e != api.OK {
					t.Errorf("Closed(%v, %v, %d): %v, error %d", l, at, day, is, e)
				}
				opens := day
				for all[squareDay{at, opens}] {
					opens++
				}
				if n, e := wader.Opens(l, at, day); n != opens || e != api.OK {
					t.Errorf("Opens(%v, %v, %d): %d, error %d, want %d", l, at, day, n, e, opens)
				}
			}
			from := r.IntN(first + 25)
			to := from + r.IntN(first+25-from)
			if n, e := wader.Days(l, at, from, to); n != counts[to+1]-counts[from] || e != api.OK {
				t.Errorf("Days(%v, %v, %d, %d): %d, error %d", l, at, from, to, n, e)
			}
		}
	}
}

// P6.7: a nest closes the squares within its reach, the farthest ones too, and
// none beyond.
func TestReach(t *testing.T) {
	for _, c := range []struct {
		x, y, reach int
		at          api.XY
		want        bool
	}{
		{0, 0, 0, api.XY{}, true},
		{0, 0, 0, api.XY{X: 1}, false},
		{0, 0, 0, api.XY{Y: -1}, false},
		{5, -5, 3, api.XY{X: 8, Y: -5}, true},
		{5, -5, 3, api.XY{X: 9, Y: -5}, false},
		{5, -5, 3, api.XY{X: 2, Y: -5}, true},
		{5, -5, 3, api.XY{X: 1, Y: -5}, false},
		{5, -5, 3, api.XY{X: 5, Y: -2}, true},
		{5, -5, 3, api.XY{X: 5, Y: -1}, false},
		{5, -5, 3, api.XY{X: 5, Y: -8}, true},
		{5, -5, 3, api.XY{X: 5, Y: -9}, false},
		{5, -5, 3, api.XY{X: 6, Y: -3}, true},
		{5, -5, 3, api.XY{X: 7, Y: -3}, false},
		{5, -5, 3, api.XY{X: 3, Y: -6}, true},
		{5, -5, 3, api.XY{X: 3, Y: -7}, false},
		{1000, 1000, 100, api.XY{X: 950, Y: 950}, true},
		{1000, 1000, 100, api.XY{X: 950, Y: 949}, false},
		{-1000, -1000, 100, api.XY{X: -900, Y: -1000}, true},
		{-1000, -1000, 100, api.XY{X: -899, Y: -1000}, false},
		{-1000, 1000, 100, api.XY{X: 1000, Y: -1000}, false},
	} {
		l := []api.Nest{{X: c.x, Y: c.y, From: 5, To: 6, R: c.reach}}
		for day := 3; day < 9; day++ {
			if is, e := wader.Closed(l, c.at, day); is != (c.want && (day == 5 || day == 6)) || e != api.OK {
				t.Errorf("Closed(%v, %v, %d): %v, error %d", l, c.at, day, is, e)
			}
		}
	}
}

// P6.7: spans of days at the limits, and nests that follow each other.
func TestDaysExamples(t *testing.T) {
	at := api.XY{X: 1000, Y: -1000}
	nest := func(from, to int) api.Nest { return api.Nest{X: 990, Y: -990, From: from, To: to, R: 20} }
	var each []api.Nest
	for i := range 50 {
		each = append(each, nest(200*i, 200*i+100))
	}
	for _, c := range []struct {
		l                 []api.Nest
		from, to          int
		days, opens, last int // of the span, from its first day on, from its last day on
	}{
		{nil, 0, 10000, 0, 0, 10000},
		{[]api.Nest{}, 7, 7, 0, 7, 7},
		{[]api.Nest{nest(0, 10000)}, 0, 10000, 10001, 10001, 10001},
		{[]api.Nest{nest(0, 10000)}, 10000, 10000, 1, 10001, 10001},
		{[]api.Nest{nest(0, 10000)}, 0, 0, 1, 10001, 10001},
		{[]api.Nest{nest(0, 0)}, 0, 10000, 1, 1, 10000},
		{[]api.Nest{nest(10000, 10000)}, 0, 10000, 1, 0, 10001},
		{[]api.Nest{nest(0, 9999)}, 0, 10000, 10000, 10000, 10000},
		{[]api.Nest{nest(4, 6), nest(7, 9)}, 4, 9, 6, 10, 10},
		{[]api.Nest{nest(7, 9), nest(4, 6)}, 4, 9, 6, 10, 10},
		{[]api.Nest{nest(4, 6), nest(8, 9)}, 4, 9, 5, 7, 10},
		{[]api.Nest{nest(4, 8), nest(6, 9)}, 4, 9, 6, 10, 10},
		{[]api.Nest{nest(4, 9), nest(5, 5)}, 4, 9, 6, 10, 10},
		{[]api.Nest{nest(4, 9), nest(4, 9)}, 3, 10, 6, 3, 10},
		{each, 0, 10000, 5050, 101, 10000},
		{each, 100, 200, 2, 101, 301},
		{slices.Repeat([]api.Nest{nest(3, 3)}, 50), 0, 9, 1, 0, 9},
		{append(slices.Repeat([]api.Nest{{From: 1, To: 9999}}, 49), nest(3, 5)), 3, 9, 3, 6, 9},
	} {
		if n, e := wader.Days(c.l, at, c.from, c.to); n != c.days || e != api.OK {
			t.Errorf("Days(%v, %d, %d): %d, error %d, want %d", c.l, c.from, c.to, n, e, c.days)
		}
		for day, want := range map[int]int{c.from: c.opens, c.to: c.last} {
			if n, e := wader.Opens(c.l, at, day); n != want || e != api.OK {
				t.Errorf("Opens(%v, %d): %d, error %d, want %d", c.l, day, n, e, want)
			}
		}
	}
}

// checkNestErrors looks at all calls for an error, with which nothing else comes.
func checkNestErrors(t *testing.T, name string, l []api.Nest, at api.XY, from, to int, want api.Errno) {
	t.Helper()
	if n, e := wader.Days(l, at, from, to); n != 0 || e != want {
		t.Errorf("Days, %s, at %v from %d to %d: %d, error %d, want %d", name, at, from, to, n, e, want)
	}
	if from != to {
		return
	}
	if is, e := wader.Closed(l, at, from); is || e != want {
		t.Errorf("Closed, %s, at %v on %d: %v, error %d, want %d", name, at, from, is, e, want)
	}
	if n, e := wader.Opens(l, at, from); n != 0 || e != want {
		t.Errorf("Opens, %s, at %v on %d: %d, error %d, want %d", name, at, from, n, e, want)
	}
}

// badNests are not valid, each for a reason of its own.
func badNests() map[string][]api.Nest {
	wide := api.Nest{From: 0, To: 10000, R: 100}
	out := map[string][]api.Nest{
		"51 nests":         slices.Repeat([]api.Nest{wide}, 51),
		"very many nests":  make([]api.Nest, 100000),
		"backwards":        {{From: 2, To: 1}},
		"backwards by far": {{From: 10000, To: 0}},
	}
	for i := range 3 {
		bad := func(name string, n int, change func(*api.Nest)) {
			l := []api.Nest{wide, wide, wide}
			change(&l[i])
			out[name+" "+strconv.Itoa(n)+" at "+strconv.Itoa(i)] = l
		}
		for _, n := range append([]int{-1001, 1001}, farNumbers...) {
			bad("X", n, func(to *api.Nest) { to.X = n })
			bad("Y", n, func(to *api.Nest) { to.Y = n })
		}
		for _, n := range append([]int{-1, 10001}, farNumbers...) {
			bad("From", n, func(to *api.Nest) { to.From = n })
			bad("To", n, func(to *api.Nest) { to.To = n })
			bad("both", n, func(to *api.Nest) { to.From, to.To = n, n })
		}
		for _, n := range append([]int{-1, 101}, farNumbers...) {
			bad("R", n, func(to *api.Nest) { to.R = n })
		}
	}
	return out
}

// P6.1, P6.7: nests that are not valid, ahead of squares and days that are none.
func TestNestErrors(t *testing.T) {
	for name, l := range badNests() {
		for _, at := range []api.XY{{}, {X: 1001}, {Y: -1001}} {
			for _, day := range []int{0, 5, -1, 10001} {
				checkNestErrors(t, name, l, at, day, day, api.ErrNests)
				checkNestErrors(t, name, l, at, day, 7, api.ErrNests)
			}
		}
	}
}

// P6.7: squares and days that are out of range, and spans that are backwards.
func TestSquareErrors(t *testing.T) {
	for name, l := range map[string][]api.Nest{"no nests": nil, "a wide nest": {{X: 1000, Y: 1000, From: 0, To: 10000, R: 100}}} {
		for _, n := range append([]int{-1001, 1001, 1100}, farNumbers...) {
			for _, at := range []api.XY{{X: n}, {Y: n}, {X: n, Y: n}, {X: 1000, Y: n}, {X: n, Y: 1000}} {
				checkNestErrors(t, name, l, at, 5, 5, api.ErrArg)
				checkNestErrors(t, name, l, at, 0, 10000, api.ErrArg)
			}
		}
		for _, day := range append([]int{-1, 10001, 10002}, farNumbers...) {
			checkNestErrors(t, name, l, api.XY{}, day, day, api.ErrArg)
			for _, other := range []int{0, 5, 10000} {
				checkNestErrors(t, name, l, api.XY{}, day, other, api.ErrArg)
				checkNestErrors(t, name, l, api.XY{}, other, day, api.ErrArg)
			}
		}
		for _, c := range [][2]int{{1, 0}, {10000, 0}, {10000, 9999}, {6, 5}} {
			checkNestErrors(t, name, l, api.XY{}, c[0], c[1], api.ErrArg)
		}
	}
	for _, x := range []int{-1000, 1000} {
		for _, y := range []int{-1000, 1000} {
			l := []api.Nest{{X: x, Y: y, From: 0, To: 10000, R: 0}}
			for _, day := range []int{0, 10000} {
				if is, e := wader.Closed(l, api.XY{X: x, Y: y}, day); !is || e != api.OK {
					t.Errorf("Closed at the corner %d, %d on %d: %v, error %d", x, y, day, is, e)
				}
			}
		}
	}
}

// P6.11: one more nest, spans one behind the other, and the days ahead of Opens.
func TestNestsAgree(t *testing.T) {
	r := rand.New(rand.NewPCG(6, 11))
	for range 2000 {
		day := []int{0, 40, 9970}[r.IntN(3)]
		l := someNests(r, 0, 0, day)
		at := api.XY{X: r.IntN(7) - 3, Y: r.IntN(7) - 3}
		more := slices.Insert(slices.Clone(l), r.IntN(len(l)+1), api.Nest{X: r.IntN(5), Y: r.IntN(5), From: day + 3, To: day + 3 + r.IntN(9), R: r.IntN(6)})
		opens := value[int](t, "Opens", l)(wader.Opens(l, at, day))
		for d := day; d <= min(opens, 10000); d++ {
			if is, e := wader.Closed(l, at, d); is != (d < opens) || e != api.OK {
				t.Errorf("Closed(%v, %v, %d): %v, error %d, but Opens(%d) is %d", l, at, d, is, e, day, opens)
			}
		}
		for d := day; d < day+30; d++ {
			old := value[bool](t, "Closed", l)(wader.Closed(l, at, d))
			if is, e := wader.Closed(more, at, d); old && !is || e != api.OK {
				t.Errorf("Closed(%v, %v, %d): %v, error %d, but closed for %v", more, at, d, is, e, l)
			}
		}
		from, to := r.IntN(day+20), day+21+r.IntN(9)
		mid := from + r.IntN(to-from)
		days := func(from, to int) int { return value[int](t, "Days", l)(wader.Days(l, at, from, to)) }
		if days(from, mid)+days(mid+1, to) != days(from, to) {
			t.Errorf("Days(%v, %v) from %d to %d and on to %d: %d, %d, and %d together", l, at, from, mid, to, days(from, mid), days(mid+1, to), days(from, to))
		}
	}
}

// R4: no call changes nests, or reads behind them.
func TestNestsAreKept(t *testing.T) {
	r := rand.New(rand.NewPCG(6, 4))
	for range 100 {
		l := someNests(r, 0, 0, 20)
		kept := append(slices.Clone(l), slices.Repeat([]api.Nest{{From: 0, To: 10000, R: 100}}, 60)...)
		all := slices.Clone(kept)
		given := all[:len(l)]
		at, day := api.XY{X: r.IntN(5), Y: r.IntN(5)}, 20+r.IntN(15)
		is := value[bool](t, "Closed", given)(wader.Closed(given, at, day))
		n := value[int](t, "Days", given)(wader.Days(given, at, day, day))
		opens := value[int](t, "Opens", given)(wader.Opens(given, at, day))
		if is != closes(l)[squareDay{at, day}] || is != (n == 1) || is != (opens > day) {
			t.Errorf("%v at %v on %d: %v, %d, %d", l, at, day, is, n, opens)
		}
		if !slices.Equal(all, kept) {
			t.Errorf("nests are changed: %v", all[:len(l)])
		}
	}
}
