package burn_test

import (
	"math"
	"math/rand/v2"
	"slices"
	"testing"

	"sedge/api"
	"sedge/burn"
)

// P4.2: fires at the limits, and those that are not valid.
func TestValid(t *testing.T) {
	for _, b := range blazes() {
		if !burn.Valid(b.f, b.w, b.starts) {
			t.Errorf("%v is not valid", b)
		}
	}
	for name, b := range map[string]blaze{
		"the greatest numbers": {even(10, 10, 100), wind(100, 100, 100, 100), []int{99}},
		"the least numbers":    {field(1, 1), wind(0, 0, 0, 0), []int{0}},
		"ten starts":           {even(10, 1, 1), api.Wind{}, []int{9, 8, 7, 6, 5, 4, 3, 2, 1, 0}},
		"bare but for a start": {field(2, 0, 0, 0, 1), api.Wind{}, []int{3}},
	} {
		if !burn.Valid(b.f, b.w, b.starts) {
			t.Errorf("%s: not valid", name)
		}
	}
	for name, b := range badBlazes() {
		if burn.Valid(b.f, b.w, b.starts) {
			t.Errorf("%s: valid", name)
		}
	}
}

// P4.1, R2: ErrFire comes ahead of what is wrong beside it, and with nothing else.
func TestFireErrors(t *testing.T) {
	for name, b := range badBlazes() {
		check := func(what string, zero bool, e api.Errno) {
			t.Helper()
			if !zero || e != api.ErrFire {
				t.Errorf("%s, %s: a result %v, error %d", what, name, !zero, e)
			}
		}
		l, e := burn.Times(b.f, b.w, b.starts)
		check("Times", len(l) == 0, e)
		at, n, e := burn.Last(b.f, b.w, b.starts)
		check("Last", at == 0 && n == 0, e)
		for _, at := range []int{0, 1, -1, 4, 1 << 40} {
			l, e = burn.By(b.f, b.w, b.starts, at)
			check("By", len(l) == 0, e)
			l, e = burn.Course(b.f, b.w, b.starts, at)
			check("Course", len(l) == 0, e)
			is, e := burn.IsCourse(b.f, b.w, b.starts, []int{at})
			check("IsCourse", !is, e)
			n, e = burn.Takes(b.f, b.w, b.starts, []int{at})
			check("Takes", n == 0, e)
			is, e = burn.IsBreak(b.f, b.w, b.starts, at, nil)
			check("IsBreak", !is, e)
			l, e = burn.Break(b.f, b.w, b.starts, at)
			check("Break", len(l) == 0, e)
			c, e := burn.Apart(b.f, b.w, b.starts, at)
			check("Apart", len(c) == 0, e)
			is, e = burn.AreApart(b.f, b.w, b.starts, at, nil)
			check("AreApart", !is, e)
			for _, count := range []int{1, 20, 21, 1000} {
				i, n, e := burn.Best(b.f, b.starts, slices.Repeat([]api.Wind{b.w}, count), at)
				check("Best", i == 0 && n == 0, e)
			}
		}
		is, e := burn.IsCourse(b.f, b.w, b.starts, nil)
		check("IsCourse", !is, e)
		n, e = burn.Takes(b.f, b.w, b.starts, nil)
		check("Takes", n == 0, e)
	}
}

// P4.2, P4.8: times by a count of their own, and by all courses of small fields.
func TestTimes(t *testing.T) {
	for _, b := range blazes() {
		if l := times(t, b); !slices.Equal(l, b.times()) {
			t.Errorf("Times of %v: %v, want %v", b, l, b.times())
		}
	}
	for _, b := range append(smallBlazes(), someBlazes(100, 4)...) {
		want := slices.Repeat([]int{-1}, len(b.f.Fuel))
		b.courses(func(course []int, takes int) {
			end := course[len(course)-1]
			if want[end] == -1 || takes < want[end] {
				want[end] = takes
			}
		})
		if l := times(t, b); !slices.Equal(l, want) {
			t.Errorf("Times of %v: %v, want %v", b, l, want)
		}
	}
}

// P4.2: the chapter's first example, and others that are counted by hand.
func TestTimesExamples(t *testing.T) {
	for _, c := range []struct {
		b      blaze
		times  []int
		last   int
		within []int // by 7 minutes
	}{
		{blaze{field(4, 5, 3, 0, 2), wind(0, 0, 0, 0), []int{0}}, []int{0, 5, -1, -1}, 1, []int{0, 1}},
		{blaze{field(3, 1, 2, 4), wind(0, 0, 0, 0), []int{0}}, []int{0, 1, 3}, 2, []int{0, 1, 2}},
		{blaze{field(3, 1, 2, 4), wind(9, 0, 9, 3), []int{2}}, []int{12, 7, 0}, 0, []int{1, 2}},
		{blaze{field(3, 1, 2, 4), wind(9, 10, 9, 9), []int{0}}, []int{0, 11, 23}, 2, []int{0}},
		{blaze{field(1, 1, 2, 4), wind(9, 9, 3, 9), []int{0}}, []int{0, 4, 9}, 2, []int{0, 1}},
		{blaze{field(1, 1, 2, 4), wind(3, 9, 9, 9), []int{2}}, []int{12, 7, 0}, 0, []int{1, 2}},
		{blaze{field(3, 9, 9, 9), wind(0, 0, 0, 0), []int{0, 2}}, []int{0, 9, 0}, 1, []int{0, 2}},
		{blaze{field(1, 7), wind(1, 1, 1, 1), []int{0}}, []int{0}, 0, []int{0}},
		{blaze{field(3, 1, 100, 1, 1, 1, 1), wind(0, 0, 0, 0), []int{0}}, []int{0, 1, 4, 1, 2, 3}, 2, []int{0, 1, 2, 3, 4, 5}}, // round about is quicker
		{blaze{even(3, 3, 3), wind(1, 1, 1, 1), []int{4}}, []int{8, 4, 8, 4, 0, 4, 8, 4, 8}, 0, []int{1, 3, 4, 5, 7}},          // four are the last ones
		{blaze{field(3, 0, 0, 0, 0, 6, 0, 0, 0, 0), wind(0, 0, 0, 0), []int{4}}, []int{-1, -1, -1, -1, 0, -1, -1, -1, -1}, 4, []int{4}},
	} {
		if l := times(t, c.b); !slices.Equal(l, c.times) {
			t.Errorf("Times of %v: %v, want %v", c.b, l, c.times)
		}
		at, n, e := burn.Last(c.b.f, c.b.w, c.b.starts)
		if at != c.last || n != c.times[c.last] || e != api.OK {
			t.Errorf("Last of %v: %d, %d, error %d, want %d", c.b, at, n, e, c.last)
		}
		l, e := burn.By(c.b.f, c.b.w, c.b.starts, 7)
		if !slices.Equal(l, c.within) || e != api.OK {
			t.Errorf("By of %v: %v, error %d, want %v", c.b, l, e, c.within)
		}
	}
	long := times(t, blaze{winding(100), wind(100, 100, 100, 100), []int{0}})
	if n := slices.Max(long); n != 200*(9*5+2*4+1) { // five rows, four ways down between them, and one step more
		t.Errorf("Times of the winding lane: at most %d", n)
	}
}

// P4.2, P4.10: what has burnt by each of the times, and between them.
func TestBy(t *testing.T) {
	for _, b := range blazes() {
		all := b.times()
		asked := append([]int{0, 1, 2, 3, 101, 20000, 1 << 31, math.MaxInt}, slices.Max(all), slices.Max(all)+1, max(slices.Max(all)-1, 0))
		slices.Sort(asked)
		var before []int
		for _, minutes := range asked {
			var want []int
			for at, time := range all {
				if 0 <= time && time <= minutes {
					want = append(want, at)
				}
			}
			l, e := burn.By(b.f, b.w, b.starts, minutes)
			if !slices.Equal(l, want) || e != api.OK {
				t.Errorf("By(%v, %d): %v, error %d, want %v", b, minutes, l, e, want)
			}
			for _, at := range before {
				if !slices.Contains(l, at) {
					t.Errorf("By(%v, %d): %v, but %v before", b, minutes, l, before)
				}
			}
			before = l
		}
		for _, minutes := range []int{-1, -2, math.MinInt} {
			if l, e := burn.By(b.f, b.w, b.starts, minutes); len(l) != 0 || e != api.ErrArg {
				t.Errorf("By(%v, %d): %v, error %d", b, minutes, l, e)
			}
		}
	}
}

// P4.2: no square has a greater time than the last one, and none before it has its time.
func TestLast(t *testing.T) {
	for _, b := range blazes() {
		at, n, e := burn.Last(b.f, b.w, b.starts)
		for i, time := range b.times() {
			if time > n || i < at && time == n || i == at && time != n || e != api.OK {
				t.Errorf("Last of %v: %d, %d, error %d, but %d at %d", b, at, n, e, time, i)
			}
		}
	}
}

// P4.8: of neighbours with fuel, the time of the one is at most that of the
// other and what the step takes.
func TestTimesOfNeighbours(t *testing.T) {
	for _, b := range blazes() {
		l := times(t, b)
		for from, time := range l {
			for to := range l {
				if time != -1 && b.passes(from, to) && (l[to] == -1 || l[to] > time+b.cost(from, to)) {
					t.Errorf("Times of %v: %v, from %d to %d", b, l, from, to)
				}
			}
		}
	}
}

// atLeast reports whether no time of a list is less than that of another one.
func atLeast(l, than []int) bool {
	for at, time := range l {
		if time != -1 && (than[at] == -1 || time < than[at]) {
			return false
		}
	}
	return true
}

// P4.8: more fuel or more wind makes no time less.
func TestMoreTakesLonger(t *testing.T) {
	r := rand.New(rand.NewPCG(4, 8))
	for _, b := range append(someBlazes(300, 5), someBlazes(40, 10)...) {
		was := times(t, b)
		for range 5 {
			more := blaze{f: api.Field{W: b.f.W, H: b.f.H, Fuel: slices.Clone(b.f.Fuel)}, w: b.w, starts: b.starts}
			if at := r.IntN(len(b.f.Fuel)); b.f.Fuel[at] > 0 {
				more.f.Fuel[at] += r.IntN(101 - b.f.Fuel[at])
			}
			if l := times(t, more); !atLeast(l, was) {
				t.Errorf("Times of %v: %v; of %v: %v", b, was, more, l)
			}
			more.f = b.f
			i := r.IntN(4)
			more.w.Extra[i] += r.IntN(101 - b.w.Extra[i])
			if l := times(t, more); !atLeast(l, was) {
				t.Errorf("Times of %v: %v; of %v: %v", b, was, more, l)
			}
		}
	}
}

// P4.7: the wind with which the fire comes last, by the times with each one.
func TestBest(t *testing.T) {
	r := rand.New(rand.NewPCG(4, 7))
	for _, b := range append(someBlazes(300, 5), someBlazes(40, 10)...) {
		winds := make([]api.Wind, 1+r.IntN(20))
		for i := range winds {
			for k := range 4 {
				winds[i].Extra[k] = r.IntN([]int{1, 2, 101}[r.IntN(3)])
			}
		}
		for _, hide := range b.hides() {
			best, latest := 0, -1
			for i, w := range winds {
				if n := (blaze{b.f, w, b.starts}).times()[hide]; n > latest {
					best, latest = i, n
				}
			}
			i, n, e := burn.Best(b.f, b.starts, winds, hide)
			if i != best || n != latest || e != api.OK {
				t.Errorf("Best(%v, %v, %d): %d, %d, error %d, want %d, %d", b, winds, hide, i, n, e, best, latest)
			}
		}
	}
}

// P4.7: of several winds the first one counts; the errors and their order.
func TestBestErrors(t *testing.T) {
	f := field(3, 2, 2, 2, 0, 0, 2, 2, 0, 2)
	starts := []int{0}
	for _, c := range []struct {
		winds      []api.Wind
		hide, i, n int
	}{
		{[]api.Wind{{}}, 8, 0, 8},
		{[]api.Wind{{}, {}}, 8, 0, 8},
		{[]api.Wind{wind(9, 0, 0, 9), wind(0, 0, 1, 0), wind(0, 1, 0, 0)}, 8, 1, 10},
		{[]api.Wind{wind(0, 0, 1, 0), wind(0, 2, 0, 0), wind(0, 0, 2, 0), {}}, 2, 1, 8},
		{[]api.Wind{{}, wind(100, 100, 100, 100)}, 6, 0, -1}, // the fire never comes there
		{slices.Repeat([]api.Wind{wind(1, 1, 1, 1)}, 20), 1, 0, 3},
	} {
		i, n, e := burn.Best(f, starts, c.winds, c.hide)
		if i != c.i || n != c.n || e != api.OK {
			t.Errorf("Best(%v, %d): %d, %d, error %d, want %d, %d", c.winds, c.hide, i, n, e, c.i, c.n)
		}
	}
	calm := []api.Wind{{}}
	bad := wind(0, 0, 0, 101)
	for name, c := range map[string]struct {
		f      api.Field
		starts []int
		winds  []api.Wind
		hide   int
		want   api.Errno
	}{
		"no winds":                 {f, starts, nil, 8, api.ErrArg},
		"empty winds":              {f, starts, []api.Wind{}, 8, api.ErrArg},
		"no winds and no field":    {api.Field{}, nil, nil, 8, api.ErrArg}, // without winds ErrArg alone is asked
		"no winds and a bad start": {f, []int{3}, nil, 8, api.ErrArg},
		"no winds, no hide":        {f, starts, nil, -1, api.ErrArg},
		"21 winds":                 {f, starts, make([]api.Wind, 21), 8, api.ErrArg},
		"many winds":               {f, starts, make([]api.Wind, 1000), 8, api.ErrArg},
		"the 21st is bad":          {f, starts, append(make([]api.Wind, 20), bad), 8, api.ErrFire},
		"the 1000th is bad":        {f, starts, append(make([]api.Wind, 999), bad), 8, api.ErrFire},
		"the first is bad":         {f, starts, []api.Wind{bad, {}}, 8, api.ErrFire},
		"the last is bad":          {f, starts, []api.Wind{{}, {}, bad}, 8, api.ErrFire},
		"a bad wind and no hide":   {f, starts, []api.Wind{{}, bad}, 0, api.ErrFire},
		"a bad start":              {f, []int{3}, calm, 8, api.ErrFire},
		"a start":                  {f, starts, calm, 0, api.ErrArg},
		"a bare square":            {f, starts, calm, 3, api.ErrArg},
		"below":                    {f, starts, calm, -1, api.ErrArg},
		"behind":                   {f, starts, calm, 9, api.ErrArg},
		"far":                      {f, starts, calm, math.MaxInt, api.ErrArg},
	} {
		if i, n, e := burn.Best(c.f, c.starts, c.winds, c.hide); i != 0 || n != 0 || e != c.want {
			t.Errorf("Best, %s: %d, %d, error %d, want %d", name, i, n, e, c.want)
		}
	}
}

// spoil overwrites a result to show whether its memory is shared.
func spoil(l []int) {
	l = l[:cap(l)]
	for i := range l {
		l[i] = -99
	}
}

// behind returns a list with marks behind its length.
func behind(l []int) []int {
	return append(slices.Clone(l), 77, 77, 77)
}

// R4: no call changes its arguments or gives out their memory.
func TestFieldsAreKept(t *testing.T) {
	for _, b := range append(someBlazes(150, 5), blaze{even(3, 3, 1), api.Wind{}, []int{8, 0}}) {
		fuel, starts, squares := behind(b.f.Fuel), behind(b.starts), behind([]int{b.starts[0]})
		winds := []api.Wind{b.w, b.w, {Extra: [4]int{77}}}
		f, l := api.Field{W: b.f.W, H: b.f.H, Fuel: fuel[:len(b.f.Fuel)]}, starts[:len(b.starts)]
		r, _ := burn.Times(f, b.w, l)
		spoil(r)
		r, _ = burn.By(f, b.w, l, 5)
		spoil(r)
		burn.Valid(f, b.w, l)
		burn.Last(f, b.w, l)
		burn.IsCourse(f, b.w, l, squares[:1])
		burn.Takes(f, b.w, l, squares[:1])
		for _, some := range [][]int{nil, squares[:1]} {
			g, _ := burn.Free(f, some)
			spoil(g.Fuel)
		}
		lists := [][]int{squares[:1], {1, 2}}
		for at := range f.Fuel {
			r, _ = burn.Course(f, b.w, l, at)
			spoil(r)
			r, _ = burn.Break(f, b.w, l, at)
			spoil(r)
			burn.IsBreak(f, b.w, l, at, squares[:1])
			burn.AreApart(f, b.w, l, at, lists[:1])
			burn.Best(f, l, winds[:2], at)
			courses, _ := burn.Apart(f, b.w, l, at)
			for i, c := range courses {
				kept := slices.Clone(courses)
				for k := range kept {
					kept[k] = slices.Clone(courses[k])
				}
				spoil(c)
				for k := i + 1; k < len(courses); k++ {
					if !slices.Equal(kept[k], courses[k]) {
						t.Errorf("Apart of %v: courses share memory", b)
					}
				}
			}
		}
		if !slices.Equal(fuel, behind(b.f.Fuel)) || !slices.Equal(starts, behind(b.starts)) || !slices.Equal(squares, behind([]int{b.starts[0]})) {
			t.Errorf("arguments are changed: %v, %v, %v", fuel, starts, squares)
		}
		if !slices.Equal(winds, []api.Wind{b.w, b.w, {Extra: [4]int{77}}}) || !slices.Equal(lists[1], []int{1, 2}) || len(lists[0]) != 1 {
			t.Errorf("arguments are changed: %v, %v", winds, lists)
		}
	}
}

// Equal calls have equal results, one after the other.
func TestAgain(t *testing.T) {
	for _, b := range someBlazes(60, 8) {
		for _, hide := range b.hides() {
			if b.beside(hide) {
				continue
			}
			first, courses := fewest(t, b, hide), apart(t, b, hide)
			for range 3 {
				if l := fewest(t, b, hide); !slices.Equal(l, first) {
					t.Errorf("Break(%v, %d): %v and %v", b, hide, first, l)
				}
				if l := apart(t, b, hide); !slices.EqualFunc(l, courses, slices.Equal) {
					t.Errorf("Apart(%v, %d): %v and %v", b, hide, courses, l)
				}
			}
		}
	}
}
