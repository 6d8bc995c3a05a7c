package dole_test

import (
	"math"
	"math/rand/v2"
	"slices"
	"strconv"
	"testing"

	"sedge/api"
)

// farNumbers are out of every range, and some of their sums and products overflow.
var farNumbers = []int{math.MinInt, math.MinInt + 1, math.MinInt / 2, math.MaxInt / 2, math.MaxInt - 1, math.MaxInt, 1 << 32, -1 << 32, 1 << 31}

// table is values, with words of the chapter said in another way: who has what
// is a list of strips for each commoner.
type table [][]int

// holdings puts the strips of a share-out, or of its beginning, into lists.
func (v table) holdings(share []int) [][]int {
	out := make([][]int, len(v))
	for strip, c := range share {
		out[c] = append(out[c], strip)
	}
	return out
}

// share is the share-out in which each one has its list of strips.
func (v table) share(has [][]int) []int {
	out := make([]int, len(v[0]))
	for c, l := range has {
		for _, strip := range l {
			out[strip] = c
		}
	}
	return out
}

// worth adds up what strips are worth to a commoner.
func (v table) worth(c int, strips []int) int {
	sum := 0
	for _, strip := range strips {
		sum += v[c][strip]
	}
	return sum
}

// worths says the words of the chapter.
func (v table) worths(share []int) []int {
	var out []int
	for c, strips := range v.holdings(share) {
		out = append(out, v.worth(c, strips))
	}
	return out
}

// envies says the words of the chapter.
func (v table) envies(has [][]int, i, k int) bool {
	return i != k && v.worth(i, has[k]) > v.worth(i, has[i])
}

// butForOne says the words of the chapter: it takes the strips away one by one.
func (v table) butForOne(has [][]int, i, k int) bool {
	for at := range has[k] {
		if v.worth(i, slices.Delete(slices.Clone(has[k]), at, at+1)) <= v.worth(i, has[i]) {
			return v.envies(has, i, k)
		}
	}
	return false
}

// fair says the words of the chapter.
func (v table) fair(share []int) bool {
	has := v.holdings(share)
	for i := range v {
		for k := range v {
			if v.envies(has, i, k) && !v.butForOne(has, i, k) {
				return false
			}
		}
	}
	return true
}

// isCircle says the words of the chapter.
func (v table) isCircle(has [][]int, l []int) bool {
	if len(l) < 2 || slices.Min(l) != l[0] || slices.Min(l) < 0 || slices.Max(l) >= len(v) {
		return false
	}
	sorted := slices.Sorted(slices.Values(l))
	if len(slices.Compact(sorted)) < len(l) {
		return false
	}
	for at := range l[1:] {
		if !v.envies(has, l[at], l[at+1]) {
			return false
		}
	}
	return v.envies(has, l[len(l)-1], l[0])
}

// selections are all lists of different commoners of so many, in no order.
func selections(count int) [][]int {
	out := [][]int{nil}
	for from := 0; from < len(out); from++ {
		for c := range count {
			if !slices.Contains(out[from], c) {
				out = append(out, append(slices.Clone(out[from]), c))
			}
		}
	}
	return out
}

// circle returns the least one of all circles of envy.
func (v table) circle(has [][]int) []int {
	var out []int
	for _, l := range selections(len(v)) {
		if v.isCircle(has, l) && (out == nil || slices.Compare(l, out) < 0) {
			out = l
		}
	}
	return out
}

// turned hands the lists of strips round a circle.
func turned(has [][]int, circle []int) [][]int {
	out := slices.Clone(has)
	for at, c := range circle {
		out[c] = has[circle[(at+1)%len(circle)]]
	}
	return out
}

// pick lets each one look through what is left, the dearest strip first.
func (v table) pick(order []int) []int {
	has := make([][]int, len(v))
	var left []int
	for strip := range v[0] {
		left = append(left, strip)
	}
	for _, c := range order {
		slices.Sort(left)
		slices.SortStableFunc(left, func(a, b int) int { return v[c][b] - v[c][a] })
		has[c] = append(has[c], left[0])
		left = left[1:]
	}
	return v.share(has)
}

// inTurn is the order in which all commoners come in turn.
func (v table) inTurn() []int {
	var order []int
	c := 0
	for range v[0] {
		order = append(order, c)
		c++
		if c == len(v) {
			c = 0
		}
	}
	return order
}

// give says the words of the chapter.
func (v table) give() []int {
	has := make([][]int, len(v))
	for strip := range v[0] {
		for {
			l := v.circle(has)
			if l == nil {
				break
			}
			has = turned(has, l)
		}
		for c := range v {
			free := true
			for k := range v {
				free = free && !v.envies(has, k, c)
			}
			if free {
				has[c] = append(slices.Clone(has[c]), strip)
				break
			}
		}
	}
	return v.share(has)
}

// halves tries all parts, in order.
func halves(row []int) ([]bool, int) {
	var out []bool
	best := -1
	var try func(part []bool, in, rest int)
	try = func(part []bool, in, rest int) {
		if len(part) == len(row) {
			if min(in, rest) > best {
				out, best = slices.Clone(part), min(in, rest)
			}
			return
		}
		n := row[len(part)]
		try(append(part, false), in, rest+n)
		try(append(part, true), in+n, rest)
	}
	try(nil, 0, 0)
	return out, best
}

// two says the words of the chapter.
func (v table) two() []int {
	part, _ := halves(v[0])
	var has [2][]int
	for strip, in := range part {
		if in {
			has[1] = append(has[1], strip)
		} else {
			has[0] = append(has[0], strip)
		}
	}
	if v.worth(1, has[1]) >= v.worth(1, has[0]) {
		return v.share([][]int{has[0], has[1]})
	}
	return v.share([][]int{has[1], has[0]})
}

// sum adds up numbers.
func sum(l []int) int {
	out := 0
	for _, n := range l {
		out += n
	}
	return out
}

// better says the words of the chapter.
func better(a, b []int) bool {
	more := 0
	for c := range a {
		if a[c] < b[c] {
			return false
		}
		more += a[c] - b[c]
	}
	return more > 0
}

// lists calls f with each list of so many numbers from a least to a greatest one.
func lists(count, least, greatest int, f func([]int)) {
	l := make([]int, count)
	var fill func(i int)
	fill = func(i int) {
		if i == count {
			f(l)
			return
		}
		for n := least; n <= greatest; n++ {
			l[i] = n
			fill(i + 1)
		}
	}
	fill(0)
}

// shares calls f with each share-out.
func (v table) shares(f func([]int)) {
	lists(len(v[0]), 0, len(v)-1, f)
}

// someShares are a few share-outs that are drawn, some of which leave a few with
// nothing, and the ones that everybody gets all, in turn.
func (v table) someShares(r *rand.Rand, count int) [][]int {
	var out [][]int
	for range count {
		l := make([]int, len(v[0]))
		from := r.IntN(len(v))
		for strip := range l {
			l[strip] = from + r.IntN(len(v)-from)
		}
		out = append(out, l)
	}
	for c := range v {
		out = append(out, slices.Repeat([]int{c}, len(v[0])))
	}
	return append(out, v.inTurn())
}

// smallTables are all values of few commoners and strips, at low numbers.
func smallTables() []table {
	var out []table
	for _, c := range []struct{ commoners, strips, most int }{
		{1, 0, 0}, {2, 0, 0}, {6, 0, 0}, {1, 1, 3}, {1, 2, 3}, {1, 3, 2}, {2, 1, 3}, {2, 2, 3}, {2, 3, 2}, {3, 1, 3}, {3, 2, 2}, {2, 4, 1}, {4, 2, 1}, {3, 3, 1},
	} {
		lists(c.commoners*c.strips, 0, c.most, func(l []int) {
			v := make(table, c.commoners)
			for i := range v {
				v[i] = slices.Clone(l[i*c.strips : (i+1)*c.strips])
			}
			out = append(out, v)
		})
	}
	return out
}

// someTables are drawn: the values are close to each other or far, some rows
// are alike, and some strips are worth nothing.
func someTables(count, commoners, strips int) []table {
	r := rand.New(rand.NewPCG(uint64(count), uint64(commoners*100+strips)))
	var out []table
	for range count {
		v := make(table, 1+r.IntN(commoners))
		wide, from := []int{1, 2, 5, 20, 1000}[r.IntN(5)], []int{0, 0, 500}[r.IntN(3)]
		n := r.IntN(strips + 1)
		for i := range v {
			v[i] = make([]int, n)
			for strip := range v[i] {
				v[i][strip] = min(1000, from+r.IntN(wide+1))
			}
			if r.IntN(6) == 0 {
				v[i] = slices.Clone(v[r.IntN(i+1)])
			}
			if n > 0 && r.IntN(6) == 0 {
				v[i][r.IntN(n)] = 0
			}
		}
		out = append(out, v)
	}
	return out
}

// turning are values with which there are many circles of envy: one strip after
// the other goes to those who like it least.
func turning(count int) []table {
	r := rand.New(rand.NewPCG(uint64(count), 7))
	var out []table
	for range count {
		v := make(table, 2+r.IntN(api.MaxCommoners-1))
		n := 2 + r.IntN(api.MaxStrips-1)
		for i := range v {
			v[i] = make([]int, n)
			for strip := range v[i] {
				v[i][strip] = r.IntN(4)
				if strip%len(v) != i {
					v[i][strip] += 3 + 2*strip*r.IntN(2)
				}
			}
		}
		out = append(out, v)
	}
	return out
}

// limitTables are those at the limits.
func limitTables() []table {
	const c, n = api.MaxCommoners, api.MaxStrips
	most, up, across, ring := make(table, c), make(table, c), make(table, c), make(table, c)
	for i := range c {
		most[i] = slices.Repeat([]int{1000}, n)
		ring[i] = make([]int, n)
		ring[i][(i+1)%c] = 1000
		for strip := range n {
			up[i] = append(up[i], 1000>>strip)
			across[i] = append(across[i], (strip*7+i*5)%n*90+10)
		}
	}
	return []table{most, up, across, ring, {nil}, {{}}, {nil, {}}, make(table, c), {{1000}}, {{0}, {1000}}, {make([]int, n)}, most[:1], most[:2], up[:2]}
}

// tables are small ones, drawn ones, and those at the limits.
func tables() []table {
	return slices.Concat(smallTables(), larger())
}

// larger are the values that are not small.
func larger() []table {
	return slices.Concat(someTables(500, 3, 5), someTables(500, api.MaxCommoners, api.MaxStrips), turning(300), limitTables())
}

// badTables are not valid, each for a reason of its own.
func badTables() map[string]table {
	rows := func(lengths ...int) table {
		var out table
		for _, n := range lengths {
			out = append(out, make([]int, n))
		}
		return out
	}
	out := map[string]table{
		"no commoners":                nil,
		"an empty table":              {},
		"seven commoners":             rows(3, 3, 3, 3, 3, 3, 3),
		"seven without strips":        make(table, 7),
		"very many commoners":         make(table, 100000),
		"thirteen strips":             rows(13),
		"thirteen strips for two":     rows(13, 13),
		"very many strips":            rows(100000, 100000),
		"one more than the others":    rows(2, 2, 3),
		"one less than the others":    rows(2, 1, 2),
		"nothing but for one":         rows(0, 0, 1),
		"one but for one":             rows(1, 0),
		"the first one has too many":  rows(13, 12),
		"the second one has too many": rows(12, 13),
		"all at fault":                {{-1}, {1001, 5}, nil, nil, nil, nil, nil},
		"the last one of all":         append(rows(12, 12, 12, 12, 12), append(make([]int, 11), 1001)),
		"the first one of all":        append(table{append([]int{-1}, make([]int, 11)...)}, rows(12, 12, 12, 12, 12)...),
	}
	for at := range 6 {
		for _, n := range append([]int{-1, 1001}, farNumbers...) {
			v := rows(3, 3)
			v[at/3][at%3] = n
			out[strconv.Itoa(n)+" at "+strconv.Itoa(at)] = v
		}
	}
	return out
}

// badShares are no lists with a commoner for each strip, for two with three strips.
func badShares() map[string][]int {
	out := map[string][]int{
		"none":         nil,
		"empty":        {},
		"one":          {0},
		"one too few":  {0, 1},
		"one too many": {0, 1, 0, 1},
		"very many":    make([]int, 100000),
		"far too many": append([]int{0, 1, 0}, make([]int, 100000)...),
	}
	for at := range 3 {
		for _, n := range append([]int{-1, 2, 3, 6}, farNumbers...) {
			l := []int{0, 1, 0}
			l[at] = n
			out[strconv.Itoa(n)+" at "+strconv.Itoa(at)] = l
		}
	}
	return out
}

// someThree are values of two commoners with three strips.
func someThree() table {
	return table{{5, 4, 1}, {6, 2, 2}}
}

// cut returns the first few numbers of a list that may be very long.
func cut(l []int) []int {
	return l[:min(len(l), 20)]
}

// value gives out a result, and fails the test at an error.
func value[T any](t *testing.T, what string, of any) func(T, api.Errno) T {
	return func(v T, e api.Errno) T {
		t.Helper()
		if e != api.OK {
			t.Fatalf("%s of %v: error %d", what, of, e)
		}
		return v
	}
}
