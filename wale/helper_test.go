package wale_test

import (
	"math"
	"math/rand/v2"
	"slices"
	"strconv"
	"testing"

	"sedge/api"
)

// farNumbers are out of every range, and some of their sums and products overflow.
var farNumbers = []int{math.MinInt, math.MinInt + 1, math.MinInt / 2, math.MaxInt / 2, math.MaxInt - 1, math.MaxInt, 1 << 32, -1 << 32, 1 << 31}

// rotation is what all calls are given.
type rotation struct {
	n int
	l []api.Change
}

// changes makes a list of From, To and Worth of each change.
func changes(numbers ...int) []api.Change {
	var out []api.Change
	for c := range slices.Chunk(numbers, 3) {
		out = append(out, api.Change{From: c[0], To: c[1], Worth: c[2]})
	}
	return out
}

// isPlan says the words of the chapter.
func (r rotation) isPlan(start int, plan []int) bool {
	for k, i := range plan {
		if i < 0 || i >= len(r.l) {
			return false
		}
		if k == 0 && r.l[i].From != start || k > 0 && r.l[i].From != r.l[plan[k-1]].To {
			return false
		}
	}
	return true
}

func (r rotation) worth(plan []int) int {
	sum := 0
	for _, i := range plan {
		sum += r.l[i].Worth
	}
	return sum
}

// plans calls f with each plan from a state with so many changes, in order.
func (r rotation) plans(start, years int, f func(plan []int)) {
	var plan []int
	var walk func(at int)
	walk = func(at int) {
		if len(plan) == years {
			f(plan)
			return
		}
		for i, c := range r.l {
			if c.From == at {
				plan = append(plan, i)
				walk(c.To)
				plan = plan[:len(plan)-1]
			}
		}
	}
	walk(start)
}

// best is a plan, if there is one, and what it is worth.
type best struct {
	is    bool
	worth int
	plan  []int
}

// firsts returns for each number of years up to a greatest one, and for each
// state, the first of the plans that are worth the most, put together from a
// first change and such a plan from where it leads.
func (r rotation) firsts(years int) [][]best {
	out := [][]best{slices.Repeat([]best{{is: true}}, r.n)}
	for y := range years {
		next := make([]best, r.n)
		for i, c := range r.l {
			rest, old := out[y][c.To], next[c.From]
			if !rest.is || old.is && old.worth > c.Worth+rest.worth {
				continue
			}
			plan := append([]int{i}, rest.plan...)
			if !old.is || old.worth < c.Worth+rest.worth || slices.Compare(plan, old.plan) < 0 {
				next[c.From] = best{true, c.Worth + rest.worth, plan}
			}
		}
		out = append(out, next)
	}
	return out
}

// after returns for each number of years up to a greatest one, and for each
// state, where plans end: where they end one year shorter behind a first change.
func (r rotation) after(years int) [][][]int {
	out := [][][]int{nil}
	for state := range r.n {
		out[0] = append(out[0], []int{state})
	}
	for y := range years {
		next := make([][]int, r.n)
		for _, c := range r.l {
			next[c.From] = append(next[c.From], out[y][c.To]...)
		}
		for state := range next {
			slices.Sort(next[state])
			next[state] = slices.Compact(next[state])
		}
		out = append(out, next)
	}
	return out
}

// ends returns the states that are left over when each state from which no
// change leads to one that is kept has been taken away, one after the other.
func (r rotation) ends() []int {
	var out []int
	for again := true; again; {
		again = false
		for state := range r.n {
			goesOn := slices.ContainsFunc(r.l, func(c api.Change) bool { return c.From == state && !slices.Contains(out, c.To) })
			if !goesOn && !slices.Contains(out, state) {
				out, again = append(out, state), true
			}
		}
	}
	slices.Sort(out)
	return out
}

// isCircle says the words of the chapter.
func (r rotation) isCircle(l []int) bool {
	if len(l) < 1 || len(l) > r.n || l[0] < 0 || l[0] >= len(r.l) || !r.isPlan(r.l[l[0]].From, l) {
		return false
	}
	for k, i := range l {
		for _, j := range l[:k] {
			if r.l[i].From == r.l[j].From {
				return false
			}
		}
	}
	return r.l[l[len(l)-1]].To == r.l[l[0]].From
}

// circles calls f with each circle.
func (r rotation) circles(f func(circle []int)) {
	var plan []int
	been := make([]bool, r.n)
	for start := range r.n {
		var walk func(at int)
		walk = func(at int) {
			if at == start && len(plan) > 0 {
				f(plan)
			}
			if been[at] {
				return
			}
			been[at] = true
			for i, c := range r.l {
				if c.From == at {
					plan = append(plan, i)
					walk(c.To)
					plan = plan[:len(plan)-1]
				}
			}
			been[at] = false
		}
		walk(start)
	}
}

// lowest returns a fraction in lowest terms, by trying all divisors.
func lowest(n, d int) api.Ratio {
	for by := d; by > 1; by-- {
		if n%by == 0 && d%by == 0 {
			return api.Ratio{N: n / by, D: d / by}
		}
	}
	return api.Ratio{N: n, D: d}
}

// above reports whether a ratio is greater than another one.
func above(a, b api.Ratio) bool {
	return a.N*b.D > b.N*a.D
}

// mean returns the greatest mean of all circles, and whether there is one.
func (r rotation) mean() (api.Ratio, bool) {
	var out api.Ratio
	is := false
	r.circles(func(circle []int) {
		m := lowest(r.worth(circle), len(circle))
		if !is || above(m, out) {
			out, is = m, true
		}
	})
	return out, is
}

// proves says the words of the chapter.
func (r rotation) proves(heights []int, mean api.Ratio) bool {
	for _, c := range r.l {
		if mean.D*c.Worth-mean.N+heights[c.To] > heights[c.From] {
			return false
		}
	}
	return true
}

// lists calls f with each list of so many numbers from a least to a greatest one.
func lists(count, least, greatest int, f func([]int)) {
	l := make([]int, count)
	var fill func(i int)
	fill = func(i int) {
		if i == count {
			f(l)
			return
		}
		for n := least; n <= greatest; n++ {
			l[i] = n
			fill(i + 1)
		}
	}
	fill(0)
}

// smallRotations are all rotations of few states with few changes of few worths.
func smallRotations() []rotation {
	var out []rotation
	for _, c := range []struct {
		n, most int
		worths  []int
	}{{1, 4, []int{-1, 0, 2}}, {2, 3, []int{-1, 0, 2}}, {3, 3, []int{-1, 2}}} {
		for count := range c.most + 1 {
			lists(count, 0, c.n*c.n*len(c.worths)-1, func(l []int) {
				r := rotation{n: c.n}
				for _, code := range l {
					pair := code / len(c.worths)
					r.l = append(r.l, api.Change{From: pair / c.n, To: pair % c.n, Worth: c.worths[code%len(c.worths)]})
				}
				out = append(out, r)
			})
		}
	}
	return out
}

// someRotations have all numbers of states, few or many changes, and worths
// that are often equal or far from each other. Some lead round all states, some
// only on from a state to those behind it.
func someRotations(count int) []rotation {
	r := rand.New(rand.NewPCG(uint64(count), 5))
	var out []rotation
	for range count {
		n := 1 + r.IntN(api.MaxStates)
		most := []int{0, 1, 2, 5, 1000}[r.IntN(5)]
		worth := func() int { return r.IntN(2*most+1) - most }
		var l []api.Change
		if r.IntN(3) == 0 {
			order := r.Perm(n)
			for i, state := range order {
				l = append(l, api.Change{From: state, To: order[(i+1)%n], Worth: worth()})
			}
		}
		onward := r.IntN(4) == 0
		for range r.IntN([]int{n + 1, 2*n + 1, api.MaxChanges + 1 - len(l)}[r.IntN(3)]) {
			c := api.Change{From: r.IntN(n), To: r.IntN(n), Worth: worth()}
			if onward && c.To <= c.From && r.IntN(20) > 0 {
				continue
			}
			l = append(l, c)
		}
		r.Shuffle(len(l), func(i, k int) { l[i], l[k] = l[k], l[i] })
		out = append(out, rotation{n, l})
	}
	return out
}

// ring leads round all states.
func ring(n int, worth func(state int) int) rotation {
	r := rotation{n: n}
	for state := range n {
		r.l = append(r.l, api.Change{From: state, To: (state + 1) % n, Worth: worth(state)})
	}
	return r
}

// limitRotations are those at the limits.
func limitRotations() []rotation {
	const n = api.MaxStates
	out := []rotation{{n: 1}, {n: n}}
	for _, w := range []int{-1000, 1000} {
		out = append(out,
			rotation{1, slices.Repeat(changes(0, 0, w), api.MaxChanges)},
			rotation{n, slices.Repeat(changes(7, 7, w), api.MaxChanges)},
			rotation{n, slices.Repeat(changes(0, 7, w), api.MaxChanges)},
			ring(n, func(int) int { return w }),
			ring(n, func(state int) int { return w * (1 - state%2*2) }),
			ring(n, func(state int) int { return w - w/1000*(state/7) }))
		back := ring(n, func(state int) int { return w })
		back.l = append(back.l, api.Change{From: 3, To: 3, Worth: -w})
		out = append(out, back)
		// the way to the circle, and the one behind it, are worth as little or as much as can be
		way := rotation{n, changes(0, 1, -w, 1, 2, -w, 2, 3, -w, 3, 3, w, 3, 4, -w, 4, 5, -w, 5, 6, -w, 6, 7, -w)}
		out = append(out, way)
	}
	full := rotation{n: n}
	for i := range api.MaxChanges {
		full.l = append(full.l, api.Change{From: i % n, To: i * 3 % 7, Worth: i*i*37%2001 - 1000})
	}
	return append(out, full)
}

// rotations are small ones, drawn ones, and those at the limits.
func rotations() []rotation {
	return slices.Concat(smallRotations(), someRotations(500), limitRotations())
}

// larger are the rotations that are not small.
func larger() []rotation {
	return append(someRotations(400), limitRotations()...)
}

// badRotations are not valid, each for a reason of its own.
func badRotations() map[string]rotation {
	out := map[string]rotation{
		"no states":             {0, nil},
		"no states, one change": {0, changes(0, 0, 0)},
		"nine states":           {9, nil},
		"nine, and changes":     {9, changes(0, 0, 1, 8, 8, 1)},
		"below 0":               {-1, nil},
		"below, and a change":   {-2, changes(-1, -1, 0)},
		"41 changes":            {1, slices.Repeat(changes(0, 0, 1), 41)},
		"very many changes":     {8, make([]api.Change, 100000)},
		"From alone":            {2, changes(2, 1, 0)},
		"To alone":              {2, changes(1, 2, 0)},
	}
	for _, n := range farNumbers {
		out["states "+strconv.Itoa(n)] = rotation{n, nil}
		out["states and a change "+strconv.Itoa(n)] = rotation{n, changes(0, 0, 0)}
	}
	for i := range 4 {
		for _, n := range append([]int{-1, 3, 8}, farNumbers...) {
			name := strconv.Itoa(n) + " at " + strconv.Itoa(i)
			l := changes(0, 1, 5, 1, 2, 5, 2, 0, 5, 0, 0, 5)
			l[i].From = n
			out["From "+name] = rotation{3, l}
			l = slices.Clone(l)
			l[i].From, l[i].To = 0, n
			out["To "+name] = rotation{3, l}
		}
		for _, n := range append([]int{-1001, 1001}, farNumbers...) {
			l := changes(0, 1, 5, 1, 2, 5, 2, 0, 5, 0, 0, 5)
			l[i].Worth = n
			out["Worth "+strconv.Itoa(n)+" at "+strconv.Itoa(i)] = rotation{3, l}
		}
	}
	return out
}

// value gives out a result, and fails the test at an error.
func value[T any](t *testing.T, what string, r rotation) func(T, api.Errno) T {
	return func(v T, e api.Errno) T {
		t.Helper()
		if e != api.OK {
			t.Fatalf("%s of %v: error %d", what, r, e)
		}
		return v
	}
}
