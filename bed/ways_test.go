package bed_test

import (
	"math"
	"slices"
	"testing"

	"sedge/api"
	"sedge/bed"
)

// near reports whether two squares of a map are neighbours.
func near(m api.Map, a, b int) bool {
	dx, dy := a%m.W-b%m.W, a/m.W-b/m.W
	return dx*dx+dy*dy == 1
}

// steps lengthens ways of no step, round by round: those of n + 1 steps lead
// to the neighbours of those of n steps.
func steps(m api.Map, from int) []int {
	out := slices.Repeat([]int{-1}, len(m.Squares))
	out[from] = 0
	for n, more := 0, true; more; n++ {
		more = false
		for a := range out {
			if out[a] != n {
				continue
			}
			for _, b := range []int{a - 1, a + 1, a - m.W, a + m.W} {
				if b >= 0 && b < len(out) && near(m, a, b) && m.Squares[b] != api.Water && out[b] == -1 {
					out[b] = n + 1
					more = true
				}
			}
		}
	}
	return out
}

// firstWay tries all ways of so many steps, by index, and returns the first
// one to a square.
func firstWay(m api.Map, way []int, to, left int) []int {
	at := way[len(way)-1]
	if left == 0 {
		if at == to {
			return slices.Clone(way)
		}
		return nil
	}
	for next := range m.Squares {
		if m.Squares[next] != api.Water && near(m, at, next) {
			if found := firstWay(m, append(way, next), to, left-1); found != nil {
				return found
			}
		}
	}
	return nil
}

// P2.6: lengths from every square.
func TestFar(t *testing.T) {
	for _, m := range maps() {
		for from, kind := range m.Squares {
			if len(m.Squares) > 64 && from%89 != 3 && from != len(m.Squares)-1 {
				continue
			}
			l, e := bed.Far(m, from)
			if kind == api.Water {
				if len(l) != 0 || e != api.ErrArg {
					t.Errorf("Far in %s from water at %d: %v, error %d", text(m), from, l, e)
				}
				continue
			}
			if want := steps(m, from); !slices.Equal(l, want) || e != api.OK {
				t.Errorf("Far in %s from %d: %v, error %d, want %v", text(m), from, l, e, want)
			}
		}
	}
}

// P2.6: shortest ways, the first of them by index.
func TestWay(t *testing.T) {
	var small []api.Map
	for _, m := range maps() {
		if len(m.Squares) <= 6 || len(m.Squares) <= 16 && len(small)%7 == 0 {
			small = append(small, m)
		}
	}
	small = append(small, full(4, 4, 3), full(5, 3, 1), full(3, 5, 4), full(2, 6, 1), full(6, 2, 1), read("pppp/pwpp/ppwp/pppp"), read("rrrr/wwwr/rrrr/rwww/rrrr"))
	none, found := 0, 0
	for _, m := range small {
		for from := range m.Squares {
			for to := range m.Squares {
				l, e := bed.Way(m, from, to)
				want, wantErr := []int(nil), api.ErrArg
				if m.Squares[from] != api.Water && m.Squares[to] != api.Water {
					wantErr = api.ErrNone
					if n := steps(m, from)[to]; n >= 0 {
						wantErr = api.OK
						want = firstWay(m, []int{from}, to, n)
						found++
					} else {
						none++
					}
				}
				if !slices.Equal(l, want) || e != wantErr {
					t.Errorf("Way in %s from %d to %d: %v, error %d, want %v, %d", text(m), from, to, l, e, want, wantErr)
				}
			}
		}
	}
	if none < 1000 || found < 1000 {
		t.Errorf("only %d ways, and %d that are none", found, none)
	}
}

// P2.6: ways that are told by hand.
func TestWayExamples(t *testing.T) {
	for _, c := range []struct {
		s        string
		from, to int
		want     []int
	}{
		{"rrr/rwr/rrr", 0, 8, []int{0, 1, 2, 5, 8}},
		{"rrr/rwr/rrr", 8, 0, []int{8, 5, 2, 1, 0}},
		{"rrr/rwr/rrr", 2, 6, []int{2, 1, 0, 3, 6}},
		{"rrr/rwr/rrr", 6, 2, []int{6, 3, 0, 1, 2}},
		{"rrr/rrr/rrr", 6, 2, []int{6, 3, 0, 1, 2}},
		{"rrr/rrr/rrr", 8, 0, []int{8, 5, 2, 1, 0}},
		{"rrr/rrr/rrr", 2, 6, []int{2, 1, 0, 3, 6}},
		{"rsp", 2, 0, []int{2, 1, 0}},
		{"r/s/p", 0, 2, []int{0, 1, 2}},
		{"ws", 1, 1, []int{1}},
		{"r", 0, 0, []int{0}},
		{"rwr/rrw", 0, 4, []int{0, 3, 4}},
	} {
		if l, e := bed.Way(read(c.s), c.from, c.to); !slices.Equal(l, c.want) || e != api.OK {
			t.Errorf("Way in %s from %d to %d: %v, error %d", c.s, c.from, c.to, l, e)
		}
	}
	for _, c := range []struct {
		s        string
		from, to int
	}{{"rwr", 0, 2}, {"rw/wr", 0, 3}, {"wr/rw", 1, 2}, {"rr/ww/rr", 1, 4}, {"rrw/rws/wsr", 3, 8}} {
		if l, e := bed.Way(read(c.s), c.from, c.to); len(l) != 0 || e != api.ErrNone {
			t.Errorf("Way in %s from %d to %d: %v, error %d", c.s, c.from, c.to, l, e)
		}
	}
}

// P2.6: squares that are none, and water; they come before ErrNone.
func TestWayErrors(t *testing.T) {
	m := read("rwr/rwr")
	for _, bad := range append([]int{-1, -2, -6, 6, 7, 900, 1, 4}, farNumbers...) {
		if l, e := bed.Far(m, bad); len(l) != 0 || e != api.ErrArg {
			t.Errorf("Far from %d: %v, error %d", bad, l, e)
		}
		for _, other := range []int{0, 2, 3, 5, 1, bad, -1, 6, math.MaxInt} {
			if l, e := bed.Way(m, bad, other); len(l) != 0 || e != api.ErrArg {
				t.Errorf("Way from %d to %d: %v, error %d", bad, other, l, e)
			}
			if l, e := bed.Way(m, other, bad); len(l) != 0 || e != api.ErrArg {
				t.Errorf("Way from %d to %d: %v, error %d", other, bad, l, e)
			}
		}
	}
}

// P2.6: lists of up to five squares, some of which are none.
func TestIsWay(t *testing.T) {
	for _, s := range []string{"rw/sp", "rrr/rwr", "rsp", "r/s/p", "w", "rr/rr", "r"} {
		m := read(s)
		var try func(l []int)
		try = func(l []int) {
			want := len(l) > 0
			for i, at := range l {
				want = want && at >= 0 && at < len(m.Squares) && m.Squares[at] != api.Water
				want = want && (i == 0 || near(m, l[i-1], at))
			}
			if is, e := bed.IsWay(m, l); is != want || e != api.OK {
				t.Errorf("IsWay in %s of %v: %v, error %d", s, l, is, e)
			}
			if len(l) == 5 {
				return
			}
			for next := -1; next <= len(m.Squares); next++ {
				try(append(slices.Clone(l), next))
			}
		}
		try(nil)
	}
}

// P2.6, R4: far squares, ways that wrap round a row, long ways, and more
// memory behind a list.
func TestIsWayExamples(t *testing.T) {
	m := read("rrr/rwr/rrr")
	for _, far := range farNumbers {
		for _, l := range [][]int{{far}, {0, far}, {far, 0}, {0, 1, far}, {far, far}, {far, far + 1}} {
			if is, e := bed.IsWay(m, l); is || e != api.OK {
				t.Errorf("IsWay of %v: %v, error %d", l, is, e)
			}
		}
	}
	for _, c := range []struct {
		l    []int
		want bool
	}{
		{nil, false}, {[]int{}, false}, {[]int{2, 3}, false}, {[]int{3, 2}, false}, {[]int{0, 4}, false}, {[]int{1, 4, 7}, false}, {[]int{4}, false}, {[]int{0, 0}, false}, {[]int{0, 2}, false}, {[]int{1, 3}, false},
		{[]int{0, 1, 0, 3, 6}, true}, {[]int{8}, true}, {[]int{0, 3, 6, 7, 8, 5, 2, 1, 0}, true}, {[]int{0, 1, 2, 5, 8}[:2:2], true},
	} {
		if is, e := bed.IsWay(m, c.l); is != c.want || e != api.OK {
			t.Errorf("IsWay of %v: %v, error %d", c.l, is, e)
		}
	}
	long := slices.Repeat([]int{0, 1, 2, 1, 0, 3}, 10000)
	if is, e := bed.IsWay(m, long); !is || e != api.OK {
		t.Errorf("IsWay of a long way: %v, error %d", is, e)
	}
	kept := slices.Clone(long)
	long[len(long)-1] = 4
	if is, e := bed.IsWay(m, long); is || e != api.OK {
		t.Errorf("IsWay of a long way into water: %v, error %d", is, e)
	}
	if is, e := bed.IsWay(m, long[:len(long)-1]); !is || e != api.OK {
		t.Errorf("IsWay of a long way before water: %v, error %d", is, e)
	}
	if !slices.Equal(long[:len(long)-1], kept[:len(kept)-1]) || long[len(long)-1] != 4 {
		t.Error("IsWay changes its list")
	}
}

// P2.12: IsWay accepts Way, whose length is Far; Far differs by at most 1
// between neighbours; no way is shorter.
func TestWaysAgree(t *testing.T) {
	for _, m := range maps() {
		for from, kind := range m.Squares {
			if kind == api.Water || len(m.Squares) > 64 && from%157 != 7 && from != len(m.Squares)-1 {
				continue
			}
			lengths := far(t, m, from)
			for to, n := range lengths {
				if len(m.Squares) <= 64 || to%7 == from%7 {
					checkWay(t, m, from, to, n)
				}
				for _, b := range []int{to + 1, to + m.W} {
					if b >= len(lengths) || !near(m, to, b) || m.Squares[to] == api.Water || m.Squares[b] == api.Water {
						continue
					}
					if d := n - lengths[b]; d < -1 || d > 1 || (n == -1) != (lengths[b] == -1) {
						t.Errorf("Far in %s from %d: %d and %d at %d and %d", text(m), from, n, lengths[b], to, b)
					}
				}
			}
		}
	}
	if l, e := bed.Way(winding(30), 29, 29*30); e != api.OK || len(l) != 15*30+15 {
		t.Errorf("the winding way has %d squares, error %d", len(l), e)
	}
}

// checkWay checks a way to a square to which n steps lead, or none if n is -1.
func checkWay(t *testing.T, m api.Map, from, to, n int) {
	t.Helper()
	l, e := bed.Way(m, from, to)
	switch {
	case m.Squares[to] == api.Water:
		if n != -1 || len(l) != 0 || e != api.ErrArg {
			t.Errorf("in %s from %d to water at %d: Far %d, Way %v, error %d", text(m), from, to, n, l, e)
		}
		return
	case n == -1:
		if len(l) != 0 || e != api.ErrNone {
			t.Errorf("in %s from %d to %d: Far -1, Way %v, error %d", text(m), from, to, l, e)
		}
		return
	}
	if e != api.OK || len(l) != n+1 || l[0] != from || l[n] != to {
		t.Errorf("in %s from %d to %d: Far %d, Way %v, error %d", text(m), from, to, n, l, e)
		return
	}
	if is, e := bed.IsWay(m, l); !is || e != api.OK {
		t.Errorf("IsWay in %s of %v: %v, error %d", text(m), l, is, e)
	}
}
