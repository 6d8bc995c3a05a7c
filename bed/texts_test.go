package bed_test

import (
	"slices"
	"strings"
	"testing"

	"sedge/api"
	"sedge/bed"
)

// P2.1: a map that is not valid comes before every other error, and there is
// no other result.
func TestMapErrors(t *testing.T) {
	for name, m := range badMaps() {
		if bed.Valid(m) {
			t.Errorf("Valid: %s", name)
		}
		if s, e := bed.Format(m); s != "" || e != api.ErrMap {
			t.Errorf("Format: %s: %q, error %d", name, s, e)
		}
		for _, kind := range []int{-1, 0, 1, 2, 3, 4, 5} {
			if n, e := bed.Count(m, kind); n != 0 || e != api.ErrMap {
				t.Errorf("Count: %s: %d, error %d", name, n, e)
			}
		}
		for what, f := range map[string]func(api.Map) ([]int, api.Errno){"Beds": bed.Beds, "Sizes": bed.Sizes, "Sides": bed.Sides} {
			if l, e := f(m); len(l) != 0 || e != api.ErrMap {
				t.Errorf("%s: %s: %v, error %d", what, name, l, e)
			}
		}
		for what, f := range map[string]func(api.Map) (int, api.Errno){"Pools": bed.Pools, "Windows": bed.Windows} {
			if n, e := f(m); n != 0 || e != api.ErrMap {
				t.Errorf("%s: %s: %d, error %d", what, name, n, e)
			}
		}
		for what, f := range map[string]func(api.Map) (api.Map, api.Errno){"Spread": bed.Spread, "Mow": bed.Mow, "Flip": bed.Flip, "Turn": bed.Turn} {
			if out, e := f(m); !isZero(out) || e != api.ErrMap {
				t.Errorf("%s: %s: %v, error %d", what, name, out, e)
			}
		}
		for _, at := range []int{-1, 0, 1, 900} {
			if l, e := bed.Far(m, at); len(l) != 0 || e != api.ErrMap {
				t.Errorf("Far: %s: %v, error %d", name, l, e)
			}
			if l, e := bed.Way(m, at, 0); len(l) != 0 || e != api.ErrMap {
				t.Errorf("Way: %s: %v, error %d", name, l, e)
			}
			if l, e := bed.Way(m, 0, at); len(l) != 0 || e != api.ErrMap {
				t.Errorf("Way back: %s: %v, error %d", name, l, e)
			}
			if is, e := bed.IsWay(m, []int{at}); is || e != api.ErrMap {
				t.Errorf("IsWay: %s: %v, error %d", name, is, e)
			}
		}
		if is, e := bed.IsWay(m, nil); is || e != api.ErrMap {
			t.Errorf("IsWay of no list: %s: %v, error %d", name, is, e)
		}
	}
}

// P2.2: maps that are valid, up to the limits.
func TestValid(t *testing.T) {
	for _, m := range maps() {
		if !bed.Valid(m) {
			t.Errorf("Valid of %s: false", text(m))
		}
	}
	for w := range 34 {
		for h := range 34 {
			want := 1 <= w && w <= 30 && 1 <= h && h <= 30
			if got := bed.Valid(full(w, h, 1)); got != want {
				t.Errorf("Valid of %d by %d squares: %v", w, h, got)
			}
		}
	}
	for n := range 40 {
		if got := bed.Valid(api.Map{W: 4, H: 5, Squares: slices.Repeat([]int{2}, n)}); got != (n == 20) {
			t.Errorf("Valid of %d squares for 20: %v", n, got)
		}
	}
	m := full(4, 5, 1)
	for i := range m.Squares {
		for kind := -2; kind <= 7; kind++ {
			m.Squares[i] = kind
			if got := bed.Valid(m); got != (1 <= kind && kind <= 4) {
				t.Errorf("Valid with %d at %d: %v", kind, i, got)
			}
		}
		m.Squares[i] = 1 + i%4
	}
}

// P2.2, P2.7: the text of each map, and the map of each text.
func TestTexts(t *testing.T) {
	for _, m := range maps() {
		want := text(m)
		if s, e := bed.Format(m); s != want || e != api.OK {
			t.Errorf("Format of %v: %q, error %d, want %q", m, s, e, want)
		}
		if back, e := bed.Parse(want); !same(back, m) || e != api.OK {
			t.Errorf("Parse of %q: %v, error %d", want, back, e)
		}
	}
	m, e := bed.Parse("rwsp/psww/rrrr")
	if e != api.OK || m.W != 4 || m.H != 3 || !slices.Equal(m.Squares, []int{api.Reed, api.Water, api.Scrub, api.Path, api.Path, api.Scrub, api.Water, api.Water, api.Reed, api.Reed, api.Reed, api.Reed}) {
		t.Errorf("Parse: %v, error %d", m, e)
	}
}

// P2.2: texts that no map has.
func TestParseErrors(t *testing.T) {
	line := strings.Repeat("r", 30)
	bad := []string{
		"", "/", "//", "r/", "/r", "r//r", "//r", "r//", "rr/r", "r/rr", "rr/rr/r", "rr/rr/rrr", "rr/rr/", "/rr/rr", "rr/r/rrr", "r/rr/r",
		"x", "R", "W", "1", " ", "r ", " r", "r w", "r\n", "r\nr", "r/\nr", "r\\r", "r,r", "rr;rr", "r\x00", "\x00", "\xff", "r\xff", "é", "rq", "qr", "tr", "or", "rv", "rx", "-", "r-",
		line + "r", line + "r/" + line + "r", strings.Repeat("r/", 30) + "r", strings.Repeat("r/", 30), strings.Repeat(line+"/", 30) + line, strings.Repeat(line+"/", 30), strings.Repeat(line, 2),
		strings.Repeat(line+"/", 29) + line + "x", strings.Repeat(line+"/", 29) + line[:29] + "x", strings.Repeat(line+"/", 29) + line[:29], strings.Repeat("/", 29), strings.Repeat("/", 100000), strings.Repeat("r/", 100000) + "r", strings.Repeat("r", 1000000),
	}
	for _, s := range bad {
		if m, e := bed.Parse(s); !isZero(m) || e != api.ErrForm {
			t.Errorf("Parse of %.80q: %v, error %d", s, m, e)
		}
	}
	if m, e := bed.Parse(strings.Repeat(line+"/", 29) + line); e != api.OK || !same(m, full(30, 30, 1)) {
		t.Errorf("Parse of the greatest map: error %d", e)
	}
}

// P2.2, P2.7: each byte, and among all short texts those that are read are
// those that are written.
func TestShortTexts(t *testing.T) {
	for b := range 256 {
		s := string([]byte{byte(b)})
		if m, e := bed.Parse(s); (e == api.OK) != strings.Contains("rwsp", s) || e != api.OK && (!isZero(m) || e != api.ErrForm) {
			t.Errorf("Parse of %q: %v, error %d", s, m, e)
		}
	}
	var try func(s string, left int)
	try = func(s string, left int) {
		g := strings.Split(s, "/")
		right := !strings.Contains(s, "x") && len(g[0]) > 0
		for _, l := range g {
			right = right && len(l) == len(g[0])
		}
		m, e := bed.Parse(s)
		if right != (e == api.OK) || !right && (!isZero(m) || e != api.ErrForm) {
			t.Errorf("Parse of %q: %v, error %d", s, m, e)
		}
		if back, e := bed.Format(m); right && (back != s || e != api.OK) {
			t.Errorf("Parse of %q: %v, whose text is %q, error %d", s, m, back, e)
		}
		if left == 0 {
			return
		}
		for _, more := range []string{"r", "w", "s", "p", "/", "x"} {
			try(s+more, left-1)
		}
	}
	try("", 6)
}

// P2.2.
func TestCount(t *testing.T) {
	for _, m := range maps() {
		s := text(m)
		for kind := 1; kind <= 4; kind++ {
			want := strings.Count(s, "rwsp"[kind-1:kind])
			if n, e := bed.Count(m, kind); n != want || e != api.OK {
				t.Errorf("Count of %d in %s: %d, error %d, want %d", kind, s, n, e, want)
			}
		}
	}
	for _, kind := range append([]int{0, -1, 5, 6, 'r', 'w'}, farNumbers...) {
		if n, e := bed.Count(read("rwsp"), kind); n != 0 || e != api.ErrArg {
			t.Errorf("Count of kind %d: %d, error %d", kind, n, e)
		}
	}
}
