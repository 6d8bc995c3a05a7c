package rod_test

import (
	"math"
	"math/rand/v2"
	"slices"
	"testing"

	"sedge/api"
	"sedge/rod"
)

// posts makes posts of pairs of coordinates.
func posts(l ...int) []api.XY {
	var out []api.XY
	for i := 0; i+1 < len(l); i += 2 {
		out = append(out, api.XY{X: l[i], Y: l[i+1]})
	}
	return out
}

// farNumbers are out of every range, and some of their sums and products overflow.
var farNumbers = []int{math.MinInt, math.MinInt + 1, math.MinInt / 2, math.MaxInt / 2, math.MaxInt - 1, math.MaxInt, 1 << 32, -1 << 32, 1 << 31}

// shared counts the points that two sides share: 0, 1, or 2 for more. It
// solves for the place of the point along both sides.
func shared(a, b, c, d api.XY) int {
	ux, uy := b.X-a.X, b.Y-a.Y
	vx, vy := d.X-c.X, d.Y-c.Y
	wx, wy := c.X-a.X, c.Y-a.Y
	det := ux*vy - uy*vx
	if det != 0 {
		s, t := wx*vy-wy*vx, wx*uy-wy*ux
		if det < 0 {
			det, s, t = -det, -s, -t
		}
		if s < 0 || s > det || t < 0 || t > det {
			return 0
		}
		return 1
	}
	if wx*uy != wy*ux {
		return 0
	}
	// On one line: places along it, measured by the first side.
	place := func(p api.XY) int { return (p.X-a.X)*ux + (p.Y-a.Y)*uy }
	low := max(min(place(a), place(b)), min(place(c), place(d)))
	high := min(max(place(a), place(b)), max(place(c), place(d)))
	switch {
	case low > high:
		return 0
	case low == high:
		return 1
	}
	return 2
}

// isParcel decides by the words of the chapter whether a list in range is valid.
func isParcel(p []api.XY) bool {
	n := len(p)
	if n < 3 || n > 40 {
		return false
	}
	for i := range n {
		for k := range n {
			if i != k && p[i].X == p[k].X && p[i].Y == p[k].Y {
				return false
			}
		}
	}
	for i := range n {
		for k := range n {
			if i == k {
				continue
			}
			most := 0
			if (i+1)%n == k || (k+1)%n == i {
				most = 1
			}
			if shared(p[i], p[(i+1)%n], p[k], p[(k+1)%n]) > most {
				return false
			}
		}
	}
	return true
}

// where tells where a post in or near the range is, by a ray so flat that it
// meets no corner.
func where(p []api.XY, at api.XY) int {
	const flat = 100000
	end := api.XY{X: at.X + flat, Y: at.Y + 1}
	count := 0
	for i := range p {
		a, b := p[i], p[(i+1)%len(p)]
		if shared(a, b, at, at) > 0 {
			return 0
		}
		count += shared(a, b, at, end)
	}
	if count%2 == 1 {
		return 1
	}
	return -1
}

// twiceArea is the signed double area by trapezoids down to the x axis.
func twiceArea(p []api.XY) int {
	sum := 0
	for i := range p {
		a, b := p[i], p[(i+1)%len(p)]
		sum += (a.X - b.X) * (a.Y + b.Y)
	}
	return sum
}

// turn is the sign of the turn at the corner i, by slopes.
func turn(p []api.XY, i int) int {
	n := len(p)
	a, b, c := p[(i+n-1)%n], p[i], p[(i+1)%n]
	d := (b.X-a.X)*(c.Y-b.Y) - (c.X-b.X)*(b.Y-a.Y)
	switch {
	case d > 0:
		return 1
	case d < 0:
		return -1
	}
	return 0
}

// size returns twice the area of a parcel by its value alone.
func size(p []api.XY) int {
	return max(twiceArea(p), -twiceArea(p))
}

// lists calls f with each list of n posts of a square of side by side posts.
func lists(n, side int, f func([]api.XY)) {
	l := make([]api.XY, n)
	var fill func(i int)
	fill = func(i int) {
		if i == n {
			f(l)
			return
		}
		for at := range side * side {
			l[i] = api.XY{X: at % side, Y: at / side}
			fill(i + 1)
		}
	}
	fill(0)
}

// grown returns parcels that are grown from triangles, post by post, within
// [-reach, reach], with all numbers of corners up to MaxPosts.
func grown(count, reach int) [][]api.XY {
	r := rand.New(rand.NewPCG(uint64(count), uint64(reach)))
	post := func() api.XY {
		return api.XY{X: r.IntN(2*reach+1) - reach, Y: r.IntN(2*reach+1) - reach}
	}
	var out [][]api.XY
	for len(out) < count {
		p := []api.XY{post(), post(), post()}
		if !isParcel(p) {
			continue
		}
		want := 3 + r.IntN(38)
		for try := 0; len(p) < want && try < 2000; try++ {
			i := r.IntN(len(p) + 1)
			at := post()
			if r.IntN(4) == 0 { // sometimes a straight corner, if the side has a post in its middle
				a, b := p[i%len(p)], p[(i+len(p)-1)%len(p)]
				at = api.XY{X: (a.X + b.X) / 2, Y: (a.Y + b.Y) / 2}
			}
			if q := slices.Insert(slices.Clone(p), i, at); isParcel(q) {
				p = q
			}
		}
		out = append(out, p)
	}
	return out
}

// parcels returns all parcels of few posts on few places, and some that are grown.
func parcels() [][]api.XY {
	var out [][]api.XY
	for n := 3; n <= 5; n++ {
		lists(n, 3, func(l []api.XY) {
			if isParcel(l) {
				out = append(out, slices.Clone(l))
			}
		})
	}
	out = append(out, grown(150, 5)...)
	out = append(out, grown(60, 12)...)
	return out
}

// bow returns a parcel of n corners, along a bow and with one above it, which
// is valid but for n.
func bow(n int) []api.XY {
	p := posts(0, 1000)
	for i := range n - 1 {
		p = append(p, api.XY{X: i, Y: i * i / 2})
	}
	return p
}

// badParcels are not valid, each for a reason of its own.
func badParcels() map[string][]api.XY {
	return map[string][]api.XY{
		"nil":               nil,
		"empty":             {},
		"one post":          posts(3, 4),
		"two posts":         posts(0, 0, 1, 0),
		"on one line":       posts(0, 0, 1, 0, 2, 0),
		"on one line back":  posts(0, 0, 2, 2, 1, 1),
		"same neighbours":   posts(0, 0, 0, 0, 2, 0, 0, 2),
		"same first, last":  posts(0, 0, 1, 0, 1, 1, 0, 0),
		"same corner":       posts(0, 0, 2, 0, 1, 1, 2, 2, 0, 2, 1, 1),
		"crossing":          posts(0, 0, 2, 2, 2, 0, 0, 2),
		"corner on a side":  posts(0, 0, 4, 0, 4, 4, 2, 0),
		"side over a side":  posts(0, 0, 4, 0, 4, 2, 3, 0, 1, 0, 0, 2),
		"turning back":      posts(0, 0, 4, 0, 2, 0, 2, 2),
		"turning back last": posts(2, 0, 2, 2, 0, 0, 4, 0),
		"x too great":       posts(0, 0, 1001, 0, 0, 1),
		"y too great":       posts(0, 0, 1, 0, 0, 1001),
		"x too small":       posts(-1001, 0, 1, 0, 0, 1),
		"y too small":       posts(0, 0, 1, -1001, 0, 1),
		"far x":             posts(0, 0, math.MaxInt, 0, 0, 1),
		"far y":             posts(0, 0, 1, 0, 0, math.MinInt),
		"41 posts":          bow(41),
	}
}

// unchanged calls f with a list behind which more memory lies, and reports an
// error if f changes the list or that memory.
func unchanged(t *testing.T, name string, p []api.XY, f func([]api.XY)) {
	t.Helper()
	mark := api.XY{X: 77, Y: -77}
	l := append(slices.Clone(p), mark, mark, mark, mark)
	f(l[:len(p)])
	if !slices.Equal(l[:len(p)], p) || slices.ContainsFunc(l[len(p):], func(a api.XY) bool { return a != mark }) {
		t.Errorf("%s changes %v", name, p)
	}
}

// spoil overwrites results to show whether memory is shared.
func spoil(l []api.XY) {
	l = l[:cap(l)]
	for i := range l {
		l[i] = api.XY{X: -999, Y: 999}
	}
}

func mustArea(t *testing.T, p []api.XY) int {
	t.Helper()
	n, e := rod.Area(p)
	if e != api.OK {
		t.Fatalf("Area(%v): error %d", p, e)
	}
	return n
}

func mustBorder(t *testing.T, p []api.XY) int {
	t.Helper()
	n, e := rod.Border(p)
	if e != api.OK {
		t.Fatalf("Border(%v): error %d", p, e)
	}
	return n
}

func mustInside(t *testing.T, p []api.XY) int {
	t.Helper()
	n, e := rod.Inside(p)
	if e != api.OK {
		t.Fatalf("Inside(%v): error %d", p, e)
	}
	return n
}
