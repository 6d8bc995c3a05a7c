package burn_test

import (
	"math"
	"math/rand/v2"
	"slices"
	"strconv"
	"testing"

	"sedge/api"
	"sedge/burn"
)

// farNumbers are out of every range, and some of their sums and products overflow.
var farNumbers = []int{math.MinInt, math.MinInt + 1, math.MinInt / 2, math.MaxInt / 2, math.MaxInt - 1, math.MaxInt, 1 << 32, -1 << 32, 1 << 31}

// blaze is what most calls are given.
type blaze struct {
	f      api.Field
	w      api.Wind
	starts []int
}

// field makes a field of its fuel.
func field(w int, fuel ...int) api.Field {
	return api.Field{W: w, H: len(fuel) / w, Fuel: fuel}
}

// even makes a field with the same fuel everywhere.
func even(w, h, fuel int) api.Field {
	return api.Field{W: w, H: h, Fuel: slices.Repeat([]int{fuel}, w*h)}
}

func wind(up, right, down, left int) api.Wind {
	return api.Wind{Extra: [4]int{up, right, down, left}}
}

// touch reports whether two squares are neighbours, by their places.
func touch(w, a, b int) bool {
	dx, dy := a%w-b%w, a/w-b/w
	return dx*dx+dy*dy == 1
}

// cost returns what a step between neighbours takes.
func (b blaze) cost(from, to int) int {
	x, y := to%b.f.W-from%b.f.W, to/b.f.W-from/b.f.W
	switch {
	case y < 0:
		return b.f.Fuel[from] + b.w.Extra[0]
	case x > 0:
		return b.f.Fuel[from] + b.w.Extra[1]
	case y > 0:
		return b.f.Fuel[from] + b.w.Extra[2]
	}
	return b.f.Fuel[from] + b.w.Extra[3]
}

// passes reports whether the fire can pass from a square to another one.
func (b blaze) passes(from, to int) bool {
	return touch(b.f.W, from, to) && b.f.Fuel[from] > 0 && b.f.Fuel[to] > 0
}

func (b blaze) starting(at int) bool {
	return slices.Contains(b.starts, at)
}

// hides are the squares with fuel that are no starts.
func (b blaze) hides() []int {
	var out []int
	for at, fuel := range b.f.Fuel {
		if fuel > 0 && !b.starting(at) {
			out = append(out, at)
		}
	}
	return out
}

// beside reports whether a start is a neighbour of a square.
func (b blaze) beside(at int) bool {
	return slices.ContainsFunc(b.starts, func(start int) bool { return touch(b.f.W, start, at) })
}

// times lowers the times, from above every one, until none can be lowered.
func (b blaze) times() []int {
	const never = 1 << 30
	out := slices.Repeat([]int{never}, len(b.f.Fuel))
	for _, at := range b.starts {
		out[at] = 0
	}
	for changed := true; changed; {
		changed = false
		for from := range out {
			for to := range out {
				if out[from] != never && b.passes(from, to) && out[from]+b.cost(from, to) < out[to] {
					out[to], changed = out[from]+b.cost(from, to), true
				}
			}
		}
	}
	for at, time := range out {
		if time == never {
			out[at] = -1
		}
	}
	return out
}

// firsts returns for each square the first course that takes its time, made
// longer square by square in the order of the times.
func (b blaze) firsts() [][]int {
	times := b.times()
	out := make([][]int, len(times))
	order := make([]int, len(times))
	for at := range order {
		order[at] = at
	}
	slices.SortStableFunc(order, func(a, b int) int { return times[a] - times[b] })
	for _, to := range order {
		if times[to] == 0 {
			out[to] = []int{to}
			continue
		}
		for from := range times {
			if times[to] == -1 || times[from] == -1 || !b.passes(from, to) || times[from]+b.cost(from, to) != times[to] {
				continue
			}
			course := append(slices.Clone(out[from]), to)
			if out[to] == nil || slices.Compare(course, out[to]) < 0 {
				out[to] = course
			}
		}
	}
	return out
}

// courses calls f with each course, and with what it takes.
func (b blaze) courses(call func(course []int, takes int)) {
	var course []int
	var walk func(at, takes int)
	walk = func(at, takes int) {
		course = append(course, at)
		call(course, takes)
		for near := range b.f.Fuel {
			if b.passes(at, near) && !b.starting(near) && !slices.Contains(course, near) {
				walk(near, takes+b.cost(at, near))
			}
		}
		course = course[:len(course)-1]
	}
	for _, start := range b.starts {
		walk(start, 0)
	}
}

// to returns all courses to a square.
func (b blaze) to(at int) [][]int {
	var out [][]int
	b.courses(func(course []int, takes int) {
		if course[len(course)-1] == at {
			out = append(out, slices.Clone(course))
		}
	})
	return out
}

// isCourse says the words of the chapter.
func (b blaze) isCourse(l []int) bool {
	for i, at := range l {
		if at < 0 || at >= len(b.f.Fuel) || b.f.Fuel[at] == 0 || slices.Index(l, at) != i {
			return false
		}
		if b.starting(at) && i > 0 || !b.starting(at) && i == 0 || i > 0 && !touch(b.f.W, l[i-1], at) {
			return false
		}
	}
	return len(l) > 0
}

// reaches reports whether the fire comes to a square if some squares are bare.
func (b blaze) reaches(hide int, bare []int) bool {
	burnt := slices.Clone(b.starts)
	for i := 0; i < len(burnt); i++ {
		for near := range b.f.Fuel {
			if b.passes(burnt[i], near) && !slices.Contains(bare, near) && !slices.Contains(burnt, near) {
				burnt = append(burnt, near)
			}
		}
	}
	return slices.Contains(burnt, hide)
}

// isBreak says the words of the chapter.
func (b blaze) isBreak(hide int, l []int) bool {
	for i, at := range l {
		if !slices.Contains(b.hides(), at) || at == hide || i > 0 && at <= l[i-1] {
			return false
		}
	}
	return !b.reaches(hide, l)
}

// common reports whether two courses have a square in common that is neither a
// start nor the hide.
func (b blaze) common(hide int, c, d []int) bool {
	return slices.ContainsFunc(c, func(at int) bool { return at != hide && !b.starting(at) && slices.Contains(d, at) })
}

// areApart says the words of the chapter, for at most 100 courses.
func (b blaze) areApart(hide int, l [][]int) bool {
	for i, c := range l {
		if !b.isCourse(c) || c[len(c)-1] != hide {
			return false
		}
		for _, d := range l[:i] {
			if b.common(hide, c, d) {
				return false
			}
		}
	}
	return true
}

// lists calls f with each list of so many numbers from 0 to a greatest one.
func lists(count, greatest int, f func([]int)) {
	l := make([]int, count)
	var fill func(i int)
	fill = func(i int) {
		if i == count {
			f(l)
			return
		}
		for n := range greatest + 1 {
			l[i] = n
			fill(i + 1)
		}
	}
	fill(0)
}

// members are the squares of a set of squares, which a number has as its bits.
func members(set, count int) []int {
	var out []int
	for at := range count {
		if set>>at&1 == 1 {
			out = append(out, at)
		}
	}
	return out
}

// smallBlazes are all fields of few squares and little fuel, with a few choices
// of starts and winds.
func smallBlazes() []blaze {
	winds := []api.Wind{{}, wind(5, 0, 1, 7), wind(1, 0, 0, 0), wind(0, 1, 0, 2), wind(3, 2, 1, 0)}
	var out []blaze
	for _, c := range [][3]int{{1, 1, 2}, {2, 1, 2}, {1, 2, 2}, {3, 1, 2}, {1, 4, 2}, {2, 2, 2}, {3, 2, 2}, {3, 3, 1}, {4, 2, 1}, {2, 4, 1}} {
		w, count := c[0], c[0]*c[1]
		lists(count, c[2], func(fuel []int) {
			for _, starts := range [][]int{{0}, {count - 1}, {count / 2}, {count - 1, 0}, {1, count - 2}, {0, count / 2, count - 1}} {
				b := blaze{field(w, slices.Clone(fuel)...), winds[len(out)%len(winds)], starts}
				bad := func(at int) bool { return at < 0 || at >= count || fuel[at] == 0 }
				if !slices.ContainsFunc(starts, bad) && !twice(starts) {
					out = append(out, b)
				}
			}
		})
	}
	return out
}

// twice reports whether a number is in a list twice.
func twice(l []int) bool {
	return len(slices.Compact(slices.Sorted(slices.Values(l)))) < len(l)
}

// someBlazes have all sizes up to a side, few or many bare squares, little or
// much fuel, and few or many starts.
func someBlazes(count, side int) []blaze {
	r := rand.New(rand.NewPCG(uint64(count), uint64(side)))
	var out []blaze
	for len(out) < count {
		b := blaze{f: api.Field{W: 1 + r.IntN(side), H: 1 + r.IntN(side)}}
		most, bare := []int{1, 2, 3, 9, 100}[r.IntN(5)], r.IntN(60)
		for range b.f.W * b.f.H {
			fuel := 1 + r.IntN(most)
			if r.IntN(100) < bare {
				fuel = 0
			}
			b.f.Fuel = append(b.f.Fuel, fuel)
		}
		for i := range b.w.Extra {
			b.w.Extra[i] = r.IntN([]int{1, 2, 4, 101}[r.IntN(4)])
		}
		for range 1 + r.IntN([]int{1, 3, 10}[r.IntN(3)]) {
			at := r.IntN(len(b.f.Fuel))
			if b.f.Fuel[at] > 0 && !b.starting(at) {
				b.starts = append(b.starts, at)
			}
		}
		if len(b.starts) > 0 {
			out = append(out, b)
		}
	}
	return out
}

// winding is a lane that winds through bare squares, so that its one course is
// long.
func winding(fuel int) api.Field {
	f := even(10, 10, fuel)
	for at := range f.Fuel {
		x, y := at%10, at/10
		if y%2 == 1 && x != (y/2+1)%2*9 {
			f.Fuel[at] = 0
		}
	}
	return f
}

// blazes are small ones, some of all sizes, and those at the limits.
func blazes() []blaze {
	out := append(smallBlazes(), someBlazes(400, 5)...)
	out = append(out, someBlazes(60, 10)...)
	for _, fuel := range []int{1, 100} {
		for _, extra := range []int{0, 100} {
			w := wind(extra, extra, extra, extra)
			out = append(out,
				blaze{winding(fuel), w, []int{0}},
				blaze{winding(fuel), w, []int{99}},
				blaze{even(10, 10, fuel), w, []int{99, 3, 50, 0, 11, 22, 33, 44, 55, 66}},
				blaze{even(10, 10, fuel), w, []int{55}},
				blaze{even(10, 1, fuel), w, []int{9}},
				blaze{even(1, 10, fuel), w, []int{9}},
				blaze{even(1, 1, fuel), w, []int{0}})
		}
	}
	return out
}

// badFields are not valid, each for a reason of its own.
func badFields() map[string]api.Field {
	out := map[string]api.Field{
		"zero":              {},
		"a number too few":  {W: 2, H: 2, Fuel: []int{1, 1, 1}},
		"a number too many": {W: 2, H: 2, Fuel: []int{1, 1, 1, 1, 1}},
		"no numbers":        {W: 2, H: 2},
		"no width":          {H: 2, Fuel: []int{1, 1}},
		"no height":         {W: 2, Fuel: []int{1, 1}},
		"too wide":          even(11, 1, 1),
		"too high":          even(1, 11, 1),
		"too wide and high": even(11, 11, 1),
		"both below 0":      {W: -2, H: -2, Fuel: []int{1, 1, 1, 1}},
		"far sides":         {W: 1 << 32, H: 1 << 32},
		"far sides, odd":    {W: math.MaxInt, H: math.MaxInt, Fuel: []int{1}},
	}
	for _, n := range append([]int{-1, 101}, farNumbers...) {
		name := strconv.Itoa(n)
		out["width "+name] = api.Field{W: n, H: 1, Fuel: []int{1}}
		out["height "+name] = api.Field{W: 1, H: n, Fuel: []int{1}}
		for i := range 4 {
			f := even(2, 2, 1)
			f.Fuel[i] = n
			out["fuel "+name+" at "+strconv.Itoa(i)] = f
		}
	}
	return out
}

// badBlazes are not valid: their field, their wind or their starts.
func badBlazes() map[string]blaze {
	out := map[string]blaze{
		"no starts":      {f: even(2, 2, 1)},
		"empty starts":   {f: even(2, 2, 1), starts: []int{}},
		"a start twice":  {f: even(2, 2, 1), starts: []int{1, 1}},
		"again far off":  {f: even(10, 1, 1), starts: []int{4, 1, 2, 3, 4}},
		"a bare start":   {f: field(2, 1, 0, 1, 1), starts: []int{1}},
		"a bare one too": {f: field(2, 1, 0, 1, 1), starts: []int{0, 2, 1}},
		"11 starts":      {f: even(10, 10, 1), starts: []int{0, 1, 2, 3, 4, 5, 6, 7, 8, 9, 10}},
		"many starts":    {f: even(2, 2, 1), starts: make([]int, 100000)},
	}
	for name, f := range badFields() {
		out[name] = blaze{f: f, starts: []int{0}}
	}
	for _, n := range append([]int{-1, 101}, farNumbers...) {
		for i := range 4 {
			b := blaze{f: even(2, 2, 1), starts: []int{0}}
			b.w.Extra[i] = n
			out["wind "+strconv.Itoa(n)+" in "+strconv.Itoa(i)] = b
		}
	}
	for _, n := range append([]int{-1, 4, 5}, farNumbers...) {
		out["start "+strconv.Itoa(n)] = blaze{f: even(2, 2, 1), starts: []int{n}}
		out["start too "+strconv.Itoa(n)] = blaze{f: even(2, 2, 1), starts: []int{0, n}}
	}
	return out
}

func isZero(f api.Field) bool {
	return f.W == 0 && f.H == 0 && len(f.Fuel) == 0
}

// value gives out a result, and fails the test at an error.
func value[T any](t *testing.T, what string, b blaze) func(T, api.Errno) T {
	return func(v T, e api.Errno) T {
		t.Helper()
		if e != api.OK {
			t.Fatalf("%s of %v: error %d", what, b, e)
		}
		return v
	}
}

func times(t *testing.T, b blaze) []int {
	t.Helper()
	return value[[]int](t, "Times", b)(burn.Times(b.f, b.w, b.starts))
}

func fewest(t *testing.T, b blaze, hide int) []int {
	t.Helper()
	return value[[]int](t, "Break", b)(burn.Break(b.f, b.w, b.starts, hide))
}

func apart(t *testing.T, b blaze, hide int) [][]int {
	t.Helper()
	return value[[][]int](t, "Apart", b)(burn.Apart(b.f, b.w, b.starts, hide))
}
