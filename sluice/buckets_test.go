package sluice_test

import (
	"math"
	"math/rand/v2"
	"slices"
	"strconv"
	"testing"

	"sedge/api"
	"sedge/sluice"
)

// pour is a map with its buckets.
type pour struct {
	w, h int
	b    []int
}

// once lets a square run over once, by the places of the others.
func once(p pour, at int) pour {
	b := slices.Clone(p.b)
	b[at] -= 4
	for near := range b {
		if touch(p.w, at, near) {
			b[near]++
		}
	}
	return pour{p.w, p.h, b}
}

// anyhow settles buckets in an order that is drawn, and returns that order.
func anyhow(p pour, r *rand.Rand) (settled, over, order []int) {
	b := slices.Clone(p.b)
	over = make([]int, len(b))
	for {
		var full []int
		for at, n := range b {
			if n >= 4 {
				full = append(full, at)
			}
		}
		if len(full) == 0 {
			return b, over, order
		}
		at := full[r.IntN(len(full))]
		b = once(pour{p.w, p.h, b}, at).b
		over[at]++
		order = append(order, at)
	}
}

func sum(l []int) int {
	out := 0
	for _, n := range l {
		out += n
	}
	return out
}

// somePours are buckets on maps of all sizes up to a side.
func somePours(count, side, most int) []pour {
	r := rand.New(rand.NewPCG(uint64(count), uint64(side)))
	var out []pour
	for range count {
		p := pour{w: 1 + r.IntN(side), h: 1 + r.IntN(side)}
		full := 1 + r.IntN(most)
		for range p.w * p.h {
			p.b = append(p.b, r.IntN(full+1))
		}
		out = append(out, p)
	}
	return out
}

// pours are all buckets on few squares, and some on more of them.
func pours() []pour {
	var out []pour
	for _, c := range [][3]int{{1, 1, 30}, {2, 1, 9}, {1, 2, 9}, {3, 1, 6}, {2, 2, 5}} {
		lists(c[0]*c[1], c[2], func(l []int) {
			out = append(out, pour{c[0], c[1], slices.Clone(l)})
		})
	}
	out = append(out, somePours(150, 5, 12)...)
	return append(out, pour{1, 1, []int{100}}, pour{3, 1, []int{100, 100, 100}}, pour{2, 3, slices.Repeat([]int{100}, 6)}, pour{16, 1, slices.Repeat([]int{4}, 16)}, pour{5, 5, slices.Repeat([]int{3}, 25)})
}

// P3.7, P3.10: squares that run over in any order end with what Settle returns.
func TestSettle(t *testing.T) {
	r := rand.New(rand.NewPCG(3, 7))
	for _, p := range pours() {
		settled, over, order := anyhow(p, r)
		b, o, e := sluice.Settle(p.w, p.h, p.b)
		if !slices.Equal(b, settled) || !slices.Equal(o, over) || e != api.OK {
			t.Errorf("Settle(%v): %v, %v, error %d, want %v, %v", p, b, o, e, settled, over)
		}
		if n, e := sluice.Lost(p.w, p.h, p.b); n != sum(p.b)-sum(settled) || e != api.OK {
			t.Errorf("Lost(%v): %d, error %d", p, n, e)
		}
		if b, e := sluice.After(p.w, p.h, p.b, order); !slices.Equal(b, settled) || e != api.OK {
			t.Errorf("After(%v, %v): %v, error %d", p, order, b, e)
		}
		if len(b) > 0 && slices.Max(b) > 3 {
			t.Errorf("Settle(%v): %v is not settled", p, b)
		}
	}
}

// P3.7: the chapter's example, and others that are told by hand.
func TestSettleExamples(t *testing.T) {
	for _, c := range []struct {
		p             pour
		settled, over []int
		lost          int
	}{
		{pour{1, 1, []int{9}}, []int{1}, []int{2}, 8},
		{pour{1, 1, []int{3}}, []int{3}, []int{0}, 0},
		{pour{1, 1, []int{4}}, []int{0}, []int{1}, 4},
		{pour{1, 1, []int{100}}, []int{0}, []int{25}, 100},
		{pour{2, 1, []int{4, 3}}, []int{1, 0}, []int{1, 1}, 6},
		{pour{1, 2, []int{4, 3}}, []int{1, 0}, []int{1, 1}, 6},
		{pour{2, 1, []int{4, 2}}, []int{0, 3}, []int{1, 0}, 3},
		{pour{3, 3, []int{0, 0, 0, 0, 4, 0, 0, 0, 0}}, []int{0, 1, 0, 1, 0, 1, 0, 1, 0}, []int{0, 0, 0, 0, 1, 0, 0, 0, 0}, 0},
		{pour{3, 2, []int{0, 0, 4, 0, 0, 0}}, []int{0, 1, 0, 0, 0, 1}, []int{0, 0, 1, 0, 0, 0}, 2},
		{pour{2, 3, []int{0, 0, 4, 0, 0, 0}}, []int{1, 0, 0, 1, 1, 0}, []int{0, 0, 1, 0, 0, 0}, 1},
		{pour{3, 1, []int{3, 4, 3}}, []int{0, 2, 0}, []int{1, 1, 1}, 8},
	} {
		b, o, e := sluice.Settle(c.p.w, c.p.h, c.p.b)
		if !slices.Equal(b, c.settled) || !slices.Equal(o, c.over) || e != api.OK {
			t.Errorf("Settle(%v): %v, %v, error %d", c.p, b, o, e)
		}
		if n, e := sluice.Lost(c.p.w, c.p.h, c.p.b); n != c.lost || e != api.OK {
			t.Errorf("Lost(%v): %d, error %d", c.p, n, e)
		}
	}
}

// P3.10: every lawful list of few buckets ends as Settle says.
func TestAllLawfulLists(t *testing.T) {
	for _, p := range []pour{{1, 1, []int{17}}, {2, 1, []int{7, 6}}, {2, 2, []int{5, 4, 4, 4}}, {3, 1, []int{5, 5, 5}}, {3, 2, []int{3, 4, 3, 4, 2, 4}}} {
		settled, over, _ := sluice.Settle(p.w, p.h, p.b)
		ran := make([]int, len(p.b))
		var l []int
		ends := 0
		var goOn func(now pour)
		goOn = func(now pour) {
			if b, e := sluice.After(p.w, p.h, p.b, l); !slices.Equal(b, now.b) || e != api.OK {
				t.Errorf("After(%v, %v): %v, error %d, want %v", p, l, b, e, now.b)
			}
			end := true
			for at, n := range now.b {
				l = append(l, at)
				if n < 4 {
					if b, e := sluice.After(p.w, p.h, p.b, l); len(b) != 0 || e != api.ErrNone {
						t.Errorf("After(%v, %v): %v, error %d", p, l, b, e)
					}
				} else {
					end = false
					ran[at]++
					if ran[at] > over[at] {
						t.Errorf("%v in %v: a square more often than in %v", l, p, over)
					}
					goOn(once(now, at))
					ran[at]--
				}
				l = l[:len(l)-1]
			}
			if end {
				ends++
				if !slices.Equal(now.b, settled) || !slices.Equal(ran, over) {
					t.Errorf("%v in %v ends with %v, %v, want %v, %v", l, p, now.b, ran, settled, over)
				}
			}
		}
		goOn(p)
		if len(p.b) > 1 && ends < 2 {
			t.Errorf("%v has %d lawful lists that end", p, ends)
		}
	}
}

// P3.10: what was there is settled or lost; settled buckets stay; one bucket
// more makes no square run over less often.
func TestSettleAddsUp(t *testing.T) {
	full := pour{16, 16, slices.Repeat([]int{100}, 256)}
	for _, p := range append(append(pours(), somePours(30, 16, 100)...), full) {
		b, o, e := sluice.Settle(p.w, p.h, p.b)
		lost, _ := sluice.Lost(p.w, p.h, p.b)
		if sum(p.b) != sum(b)+lost || e != api.OK {
			t.Errorf("Settle(%v): %v and %d lost, error %d", p, b, lost, e)
		}
		rim := 0 // each square on it loses a bucket a side
		for at, n := range o {
			x, y := at%p.w, at/p.w
			for _, is := range []bool{x == 0, x == p.w-1, y == 0, y == p.h-1} {
				if is {
					rim += n
				}
			}
			got := p.b[at] - 4*n
			for near := range o {
				if touch(p.w, at, near) {
					got += o[near]
				}
			}
			if got != b[at] || b[at] < 0 || b[at] > 3 {
				t.Errorf("Settle(%v): %d at %d, want %d", p, b[at], at, got)
			}
		}
		if rim != lost {
			t.Errorf("Lost(%v): %d, over the rim %d", p, lost, rim)
		}
		again, none, e := sluice.Settle(p.w, p.h, b)
		if !slices.Equal(again, b) || sum(none) != 0 || e != api.OK {
			t.Errorf("Settle(%v) again: %v, %v, error %d", b, again, none, e)
		}
		if n, e := sluice.Lost(p.w, p.h, b); n != 0 || e != api.OK {
			t.Errorf("Lost(%v) again: %d, error %d", b, n, e)
		}
		for _, at := range []int{0, len(p.b) / 2, len(p.b) - 1} {
			more := slices.Clone(p.b)
			more[at]++
			if more[at] > 100 {
				continue
			}
			_, o2, _ := sluice.Settle(p.w, p.h, more)
			for i := range o {
				if len(o2) != len(o) || o2[i] < o[i] {
					t.Errorf("Settle(%v), one more at %d: %v, was %v", p, at, o2, o)
					break
				}
			}
		}
	}
}

// inTurn returns a lawful list that goes over the squares again and again,
// with at most so many of them.
func inTurn(p pour, most int) []int {
	b := slices.Clone(p.b)
	var order []int
	for moved := true; moved; {
		moved = false
		for at := range b {
			if b[at] < 4 || len(order) == most {
				continue
			}
			order = append(order, at)
			moved = true
			b[at] -= 4
			for _, near := range []int{at - p.w, at - 1, at + 1, at + p.w} {
				if near >= 0 && near < len(b) && touch(p.w, at, near) {
					b[near]++
				}
			}
		}
	}
	return order
}

// P3.7: long lists, what is none of their squares, and what is not lawful.
func TestAfter(t *testing.T) {
	full := pour{16, 16, slices.Repeat([]int{100}, 256)}
	order := inTurn(full, 100001)
	if len(order) < 100001 {
		t.Fatalf("only %d squares run over", len(order))
	}
	b, _, _ := sluice.Settle(16, 16, full.b)
	if l, e := sluice.After(16, 16, full.b, order[:100000]); len(l) != 256 || slices.Equal(l, b) || e != api.OK {
		t.Errorf("After 100000 squares: %v, error %d", l, e)
	}
	if l, e := sluice.After(16, 16, full.b, order); len(l) != 0 || e != api.ErrArg {
		t.Errorf("After 100001 squares: %v, error %d", l, e)
	}
	if l, e := sluice.After(1, 1, []int{0}, make([]int, 100000)); len(l) != 0 || e != api.ErrNone {
		t.Errorf("After 100000 unlawful squares: %v, error %d", l, e)
	}
	if l, e := sluice.After(1, 1, []int{0}, make([]int, 100001)); len(l) != 0 || e != api.ErrArg {
		t.Errorf("After 100001 unlawful squares: %v, error %d", l, e)
	}
	// between its neighbours a square may get more than there may be at first
	if l, e := sluice.After(3, 1, []int{100, 100, 100}, []int{0, 0, 2, 2}); !slices.Equal(l, []int{92, 104, 92}) || e != api.OK {
		t.Errorf("After, above 100: %v, error %d", l, e)
	}
	for _, l := range [][]int{nil, {}} {
		if b, e := sluice.After(2, 1, []int{5, 100}, l); !slices.Equal(b, []int{5, 100}) || e != api.OK {
			t.Errorf("After nothing: %v, error %d", b, e)
		}
	}
	for _, l := range [][]int{{1}, {0, 0}, {0, 1, 0}, {0, 1, 1}, {1, 0}} {
		if b, e := sluice.After(2, 1, []int{4, 3}, l); len(b) != 0 || e != api.ErrNone {
			t.Errorf("After what is not lawful, %v: %v, error %d", l, b, e)
		}
	}
	for _, at := range append([]int{-1, 2, 3}, farNumbers...) {
		for _, l := range [][]int{{at}, {0, at}, {1, at}, {at, 0}, {1, 1, at, 1}} { // ErrArg comes ahead of ErrNone
			if b, e := sluice.After(2, 1, []int{4, 3}, l); len(b) != 0 || e != api.ErrArg {
				t.Errorf("After no square, %v: %v, error %d", l, b, e)
			}
		}
	}
}

// badPours are not valid, each for a reason of its own.
func badPours() map[string]pour {
	out := map[string]pour{
		"nothing":           {},
		"too few":           {2, 2, []int{1, 1, 1}},
		"too many":          {2, 2, []int{1, 1, 1, 1, 1}},
		"no buckets":        {2, 2, nil},
		"no width":          {0, 2, nil},
		"no height":         {2, 0, nil},
		"both below 0":      {-2, -3, make([]int, 6)},
		"too wide":          {17, 1, make([]int, 17)},
		"too high":          {1, 17, make([]int, 17)},
		"too wide and high": {17, 17, make([]int, 289)},
		"far sides":         {1 << 32, 1 << 32, nil},
		"far sides, odd":    {math.MaxInt, math.MaxInt, []int{4}},
	}
	for _, n := range append([]int{-1, 101}, farNumbers...) {
		name := strconv.Itoa(n)
		out["width "+name] = pour{n, 1, []int{4}}
		out["height "+name] = pour{1, n, []int{4}}
		for i := range 4 {
			b := []int{4, 4, 4, 4}
			b[i] = n
			out[name+" at "+strconv.Itoa(i)] = pour{2, 2, b}
		}
	}
	return out
}

// P3.1: ErrBuckets comes ahead of what is wrong with a list.
func TestBucketErrors(t *testing.T) {
	for name, p := range badPours() {
		if b, o, e := sluice.Settle(p.w, p.h, p.b); len(b) != 0 || len(o) != 0 || e != api.ErrBuckets {
			t.Errorf("Settle, %s: %v, %v, error %d", name, b, o, e)
		}
		if n, e := sluice.Lost(p.w, p.h, p.b); n != 0 || e != api.ErrBuckets {
			t.Errorf("Lost, %s: %d, error %d", name, n, e)
		}
		for _, l := range [][]int{nil, {0}, {-1}, {0, 1 << 40}, make([]int, 100001)} {
			if b, e := sluice.After(p.w, p.h, p.b, l); len(b) != 0 || e != api.ErrBuckets {
				t.Errorf("After, %s: %v, error %d", name, b, e)
			}
		}
	}
	for name, p := range map[string]pour{"16 by 16": {16, 16, make([]int, 256)}, "16 by 1": {16, 1, make([]int, 16)}, "1 by 16": {1, 16, make([]int, 16)}, "0 to 100": {2, 1, []int{0, 100}}} {
		if b, o, e := sluice.Settle(p.w, p.h, p.b); len(b) != len(p.b) || len(o) != len(p.b) || e != api.OK {
			t.Errorf("Settle, %s: %v, %v, error %d", name, b, o, e)
		}
		if _, e := sluice.After(p.w, p.h, p.b, nil); e != api.OK {
			t.Errorf("After, %s: error %d", name, e)
		}
		if _, e := sluice.Lost(p.w, p.h, p.b); e != api.OK {
			t.Errorf("Lost, %s: error %d", name, e)
		}
	}
}

// R4: no call changes its arguments or gives out their memory.
func TestBucketsAreKept(t *testing.T) {
	const mark = 77
	for _, p := range []pour{{1, 1, []int{9}}, {1, 1, []int{3}}, {2, 2, []int{5, 4, 4, 4}}, {3, 3, make([]int, 9)}} {
		b := append(slices.Clone(p.b), mark, mark, mark)
		l := []int{0, mark, mark}
		c := b[:len(p.b)]
		settled, over, _ := sluice.Settle(p.w, p.h, c)
		was := slices.Clone(over)
		spoil(settled)
		if !slices.Equal(over, was) {
			t.Errorf("Settle(%v): two results share memory", p)
		}
		spoil(over)
		sluice.Lost(p.w, p.h, c)
		for n := range 2 {
			after, _ := sluice.After(p.w, p.h, c, l[:n])
			spoil(after)
		}
		if !slices.Equal(b, append(slices.Clone(p.b), mark, mark, mark)) || !slices.Equal(l, []int{0, mark, mark}) {
			t.Errorf("%v is changed: %v, %v", p, b, l)
		}
	}
}
