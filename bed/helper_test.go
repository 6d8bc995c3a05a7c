package bed_test

import (
	"math"
	"math/rand/v2"
	"slices"
	"strconv"
	"strings"
	"testing"

	"sedge/api"
	"sedge/bed"
)

// farNumbers are out of every range, and some of their sums and products overflow.
var farNumbers = []int{math.MinInt, math.MinInt + 1, math.MinInt / 2, math.MaxInt / 2, math.MaxInt - 1, math.MaxInt, 1 << 32, -1 << 32, 1 << 31}

// grid is a map by its rows, outside of which there is nothing.
type grid []string

func (g grid) at(x, y int) byte {
	if y < 0 || y >= len(g) || x < 0 || x >= len(g[y]) {
		return 0
	}
	return g[y][x]
}

func (g grid) reed(x, y int) bool { return g.at(x, y) == 'r' }

// near counts the neighbours of a place that are reed.
func (g grid) near(x, y int) int {
	sum := 0
	for _, at := range [][2]int{{x, y - 1}, {x, y + 1}, {x - 1, y}, {x + 1, y}} {
		if g.reed(at[0], at[1]) {
			sum++
		}
	}
	return sum
}

// rows writes a map row by row.
func rows(m api.Map) grid {
	var g grid
	for y := range m.H {
		line := make([]byte, m.W)
		for x := range m.W {
			switch m.Squares[y*m.W+x] {
			case 1:
				line[x] = 'r'
			case 2:
				line[x] = 'w'
			case 3:
				line[x] = 's'
			case 4:
				line[x] = 'p'
			}
		}
		g = append(g, string(line))
	}
	return g
}

func text(m api.Map) string { return strings.Join(rows(m), "/") }

// read makes the map of a text that is known to be right.
func read(s string) api.Map {
	g := grid(strings.Split(s, "/"))
	m := api.Map{W: len(g[0]), H: len(g)}
	for _, line := range g {
		for i := range line {
			m.Squares = append(m.Squares, 1+strings.Index("rwsp", line[i:i+1]))
		}
	}
	return m
}

// allMaps calls f with each map of w by h squares of the first so many kinds.
func allMaps(w, h, kinds int, f func(api.Map)) {
	m := api.Map{W: w, H: h, Squares: make([]int, w*h)}
	var fill func(i int)
	fill = func(i int) {
		if i == w*h {
			f(m)
			return
		}
		for k := range kinds {
			m.Squares[i] = k + 1
			fill(i + 1)
		}
	}
	fill(0)
}

// someMaps are maps of all sizes, with reed and water of several densities.
func someMaps(count, side int) []api.Map {
	r := rand.New(rand.NewPCG(uint64(count), uint64(side)))
	var out []api.Map
	for range count {
		m := api.Map{W: 1 + r.IntN(side), H: 1 + r.IntN(side)}
		reed, water := r.IntN(11), r.IntN(11)
		for range m.W * m.H {
			switch {
			case r.IntN(10) < reed:
				m.Squares = append(m.Squares, 1)
			case r.IntN(10) < water:
				m.Squares = append(m.Squares, 2)
			default:
				m.Squares = append(m.Squares, 3+r.IntN(2))
			}
		}
		out = append(out, m)
	}
	return out
}

// full is a map of one kind alone.
func full(w, h, kind int) api.Map {
	return api.Map{W: w, H: h, Squares: slices.Repeat([]int{kind}, w*h)}
}

// maps are all maps of few squares, some of all sizes, and those of one kind at the limits.
func maps() []api.Map {
	var out []api.Map
	keep := func(m api.Map) {
		out = append(out, api.Map{W: m.W, H: m.H, Squares: slices.Clone(m.Squares)})
	}
	for _, c := range [][3]int{{1, 1, 4}, {2, 1, 4}, {1, 2, 4}, {2, 2, 4}, {3, 1, 4}, {1, 3, 4}, {5, 1, 4}, {1, 5, 4}, {3, 2, 4}, {2, 3, 4}, {3, 3, 2}, {4, 3, 2}, {3, 4, 2}} {
		allMaps(c[0], c[1], c[2], keep)
	}
	out = append(out, someMaps(400, 8)...)
	out = append(out, someMaps(60, 30)...)
	for kind := 1; kind <= 4; kind++ {
		out = append(out, full(30, 30, kind), full(1, 30, kind), full(30, 1, kind))
	}
	return append(out, rings(30, 1, 2), rings(29, 2, 1), rings(30, 3, 4), winding(30), checks(30))
}

// rings has squares of two kinds in rings around each other.
func rings(side, odd, even int) api.Map {
	m := full(side, side, even)
	for i := range m.Squares {
		x, y := i%side, i/side
		if min(x, y, side-1-x, side-1-y)%2 == 1 {
			m.Squares[i] = odd
		}
	}
	return m
}

// winding is one bed, and one way, that winds through water.
func winding(side int) api.Map {
	m := full(side, side, 1)
	for i := range m.Squares {
		x, y := i%side, i/side
		if y%2 == 1 && x != (y/2%2)*(side-1) {
			m.Squares[i] = 2
		}
	}
	return m
}

// checks has reed and path in turns: no reed has a neighbour of reed.
func checks(side int) api.Map {
	m := full(side, side, 1)
	for i := range m.Squares {
		if (i%side+i/side)%2 == 1 {
			m.Squares[i] = 4
		}
	}
	return m
}

// badMaps are not valid, each for a reason of its own.
func badMaps() map[string]api.Map {
	out := map[string]api.Map{
		"zero":              {},
		"a square too few":  {W: 2, H: 2, Squares: []int{1, 1, 1}},
		"a square too many": {W: 2, H: 2, Squares: []int{1, 1, 1, 1, 1}},
		"no squares":        {W: 2, H: 2},
		"no width":          {H: 2},
		"no height":         {W: 2},
		"no width, squares": {H: 2, Squares: []int{1, 1}},
		"sides below 0":     {W: -1, H: -1, Squares: []int{1}},
		"both below 0":      {W: -2, H: -3, Squares: []int{1, 1, 1, 1, 1, 1}},
		"too wide":          full(31, 1, 1),
		"too high":          full(1, 31, 1),
		"too wide and high": full(31, 31, 1),
		"far sides":         {W: 1 << 32, H: 1 << 32},
		"far sides, odd":    {W: math.MaxInt, H: math.MaxInt, Squares: []int{1}},
	}
	for _, far := range farNumbers {
		name := strconv.Itoa(far)
		out["width "+name] = api.Map{W: far, H: 1, Squares: []int{1}}
		out["height "+name] = api.Map{W: 1, H: far, Squares: []int{1}}
	}
	for _, kind := range append([]int{0, -1, 5, 6, 'r'}, farNumbers...) {
		for i := range 4 {
			m := full(2, 2, 1)
			m.Squares[i] = kind
			out["kind "+strconv.Itoa(kind)+" at "+strconv.Itoa(i)] = m
		}
	}
	return out
}

// unchanged calls f with a map behind whose squares more memory lies, and
// reports an error if f changes the squares or that memory, or gives out memory
// of either.
func unchanged(t *testing.T, name string, m api.Map, f func(api.Map) []int) {
	t.Helper()
	const mark = 77
	l := append(slices.Clone(m.Squares), mark, mark, mark, mark)
	out := f(api.Map{W: m.W, H: m.H, Squares: l[:len(m.Squares)]})
	out = out[:cap(out)]
	for i := range out {
		out[i] = -99
	}
	if !slices.Equal(l[:len(m.Squares)], m.Squares) || slices.ContainsFunc(l[len(m.Squares):], func(n int) bool { return n != mark }) {
		t.Errorf("%s changes %s", name, text(m))
	}
}

func same(a, b api.Map) bool {
	return a.W == b.W && a.H == b.H && slices.Equal(a.Squares, b.Squares)
}

func isZero(m api.Map) bool {
	return m.W == 0 && m.H == 0 && len(m.Squares) == 0
}

// value fails the test at an error, and gives out the result otherwise.
func value[T any](t *testing.T, what string, m api.Map, f func(api.Map) (T, api.Errno)) T {
	t.Helper()
	v, e := f(m)
	if e != api.OK {
		t.Fatalf("%s of %s: error %d", what, text(m), e)
	}
	return v
}

func count(t *testing.T, m api.Map, kind int) int {
	t.Helper()
	return value(t, "Count", m, func(m api.Map) (int, api.Errno) { return bed.Count(m, kind) })
}

func far(t *testing.T, m api.Map, from int) []int {
	t.Helper()
	return value(t, "Far", m, func(m api.Map) ([]int, api.Errno) { return bed.Far(m, from) })
}
