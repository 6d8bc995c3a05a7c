package rod_test

import (
	"testing"

	"sedge/api"
	"sedge/rod"
)

// P1.3.
func TestBundles(t *testing.T) {
	for _, c := range [][3]int{{24, 72, 9}, {24, 59, 6}, {24, 58, 5}, {24, 24, 1}, {24, 23, 0}, {1, 1, 1}, {1, 1000, 1000000}, {1000, 1, 0}, {1000, 999, 0}, {1000, 1000, 1}, {2, 3, 2}, {3, 10, 11}} {
		if n, e := rod.Bundles(c[0], c[1]); n != c[2] || e != api.OK {
			t.Errorf("Bundles(%d, %d): %d, error %d, want %d", c[0], c[1], n, e, c[2])
		}
	}
	for girth := 1; girth <= 1000; girth += 1 + girth/9 {
		held := 0 // the bundles whose area is within that of the band
		for band := 1; band <= 1000; band++ {
			for (held+1)*girth*girth <= band*band {
				held++
			}
			if n, e := rod.Bundles(girth, band); n != held || e != api.OK {
				t.Fatalf("Bundles(%d, %d): %d, error %d, want %d", girth, band, n, e, held)
			}
		}
	}
}

// P1.3.
func TestBand(t *testing.T) {
	for _, c := range [][3]int{{24, 6, 59}, {24, 9, 72}, {24, 1, 24}, {24, 10000, 2400}, {1, 1, 1}, {1, 2, 2}, {1, 4, 2}, {1, 5, 3}, {1, 10000, 100}, {1, 9999, 100}, {1, 9802, 100}, {1, 9801, 99}, {1000, 1, 1000}, {1000, 2, 1415}, {1000, 10000, 100000}} {
		if n, e := rod.Band(c[0], c[1]); n != c[2] || e != api.OK {
			t.Errorf("Band(%d, %d): %d, error %d, want %d", c[0], c[1], n, e, c[2])
		}
	}
	for girth := 1; girth <= 1000; girth += 1 + girth/9 {
		least := 1
		for bundles := 1; bundles <= 10000; bundles++ {
			for least*least < bundles*girth*girth {
				least++
			}
			if n, e := rod.Band(girth, bundles); n != least || e != api.OK {
				t.Fatalf("Band(%d, %d): %d, error %d, want %d", girth, bundles, n, e, least)
			}
		}
	}
}

// P1.9: a band holds its bundles, and one inch less does not, where Bundles has no error.
func TestBandHolds(t *testing.T) {
	for _, girth := range []int{1, 2, 3, 7, 10, 24, 31, 99, 100, 333, 500, 999, 1000} {
		for bundles := 1; bundles <= 10000; bundles++ {
			band, e := rod.Band(girth, bundles)
			if e != api.OK {
				t.Fatalf("Band(%d, %d): error %d", girth, bundles, e)
			}
			if held, e := rod.Bundles(girth, band); e == api.OK && held < bundles || (e != api.OK) != (band > 1000) {
				t.Fatalf("Bundles(%d, %d): %d, error %d, want %d", girth, band, held, e, bundles)
			}
			if held, e := rod.Bundles(girth, band-1); e == api.OK && held >= bundles {
				t.Fatalf("Bundles(%d, %d): %d, want less than %d", girth, band-1, held, bundles)
			}
		}
	}
}

// P1.3: what is out of range.
func TestBundlesErrors(t *testing.T) {
	bad := append([]int{0, -1, -24, 1001, 10001}, farNumbers...)
	for _, n := range bad {
		for _, c := range [][2]int{{n, 72}, {72, n}, {n, n}, {n, 1}, {1, n}, {1000, n}, {n, 1000}} {
			if got, e := rod.Bundles(c[0], c[1]); got != 0 || e != api.ErrArg {
				t.Errorf("Bundles(%d, %d): %d, error %d", c[0], c[1], got, e)
			}
			if n == 1001 && c[1] == n && c[0] != n {
				continue // so many bundles are in range
			}
			if got, e := rod.Band(c[0], c[1]); got != 0 || e != api.ErrArg {
				t.Errorf("Band(%d, %d): %d, error %d", c[0], c[1], got, e)
			}
		}
	}
	if n, e := rod.Band(1, 1001); n != 32 || e != api.OK {
		t.Errorf("Band(1, 1001): %d, error %d", n, e)
	}
}
