package bed_test

import (
	"slices"
	"strings"
	"testing"

	"sedge/api"
	"sedge/bed"
)

// redraw writes a grid in which each place has the letter that is told.
func redraw(g grid, letter func(x, y int) byte) string {
	var lines []string
	for y := range g {
		line := make([]byte, len(g[y]))
		for x := range line {
			line[x] = letter(x, y)
		}
		lines = append(lines, string(line))
	}
	return strings.Join(lines, "/")
}

// turned writes the columns of a grid, each from below, as rows.
func turned(g grid) string {
	var lines []string
	for x := range len(g[0]) {
		line := ""
		for y := range g {
			line = g[y][x:x+1] + line
		}
		lines = append(lines, line)
	}
	return strings.Join(lines, "/")
}

// P2.5: each of the four against letters that are drawn anew.
func TestGrowth(t *testing.T) {
	for _, m := range maps() {
		g := rows(m)
		spread := redraw(g, func(x, y int) byte {
			if c := g.at(x, y); c == 'w' || g.near(x, y) < 2 {
				return c
			}
			return 'r'
		})
		if s := text(value(t, "Spread", m, bed.Spread)); s != spread {
			t.Errorf("Spread of %s: %s, want %s", text(m), s, spread)
		}
		mown := redraw(g, func(x, y int) byte {
			if c := g.at(x, y); c != 'r' || g.near(x, y) > 1 {
				return c
			}
			return 'p'
		})
		if s := text(value(t, "Mow", m, bed.Mow)); s != mown {
			t.Errorf("Mow of %s: %s, want %s", text(m), s, mown)
		}
		flipped := redraw(g, func(x, y int) byte { return g.at(m.W-1-x, y) })
		if s := text(value(t, "Flip", m, bed.Flip)); s != flipped {
			t.Errorf("Flip of %s: %s, want %s", text(m), s, flipped)
		}
		if s := text(value(t, "Turn", m, bed.Turn)); s != turned(g) {
			t.Errorf("Turn of %s: %s, want %s", text(m), s, turned(g))
		}
	}
}

// P2.5: the chapter's examples, and others that are drawn by hand: from a map,
// what Spread, Mow, Flip and Turn return.
func TestGrowthExamples(t *testing.T) {
	for _, c := range [][5]string{
		{"rw/sp", "rw/sp", "pw/sp", "wr/ps", "sr/pw"},
		{"rps/srp", "rrs/rrp", "pps/spp", "spr/prs", "sr/rp/ps"},
		{"rpr", "rrr", "ppp", "rpr", "r/p/r"},
		{"r/s/r", "r/r/r", "p/s/p", "r/s/r", "rsr"},
		{"rwr", "rwr", "pwp", "rwr", "r/w/r"},
		{"rrr", "rrr", "prp", "rrr", "r/r/r"}, // all at once: the middle has two neighbours yet
		{"rppr/pppp/pppr", "rppr/pppr/pppr", "pppp/pppp/pppp", "rppr/pppp/rppp", "ppr/ppp/ppp/rpr"},
		{"rpp/prp/ppr", "rrp/rrr/prr", "ppp/ppp/ppp", "ppr/prp/rpp", "ppr/prp/rpp"}, // reed at corners does not count
		{"rprp", "rrrp", "pppp", "prpr", "r/p/r/p"},                                 // (3, 0) has one alone, also at once
		{"s", "s", "s", "s", "s"},
		{"r", "r", "p", "r", "r"},
	} {
		m := read(c[0])
		for i, f := range []func(api.Map) (api.Map, api.Errno){bed.Spread, bed.Mow, bed.Flip, bed.Turn} {
			if s := text(value(t, "growth", m, f)); s != c[i+1] {
				t.Errorf("%s by the function %d: %s, want %s", c[0], i, s, c[i+1])
			}
		}
	}
}

// sorted returns a list in its order of numbers.
func sorted(l []int) []int { return slices.Sorted(slices.Values(l)) }

// P2.10: what mirrors and turns leave.
func TestTurnsKeep(t *testing.T) {
	for _, m := range maps() {
		flipped := value(t, "Flip", m, bed.Flip)
		if back := value(t, "Flip", flipped, bed.Flip); !same(back, m) {
			t.Errorf("Flip of Flip of %s: %s", text(m), text(back))
		}
		once := value(t, "Turn", m, bed.Turn)
		if once.W != m.H || once.H != m.W {
			t.Errorf("Turn of %s: %s", text(m), text(once))
		}
		back := once
		for range 3 {
			back = value(t, "Turn", back, bed.Turn)
		}
		if !same(back, m) {
			t.Errorf("four Turns of %s: %s", text(m), text(back))
		}
		for _, other := range []api.Map{flipped, once} {
			for kind := 1; kind <= 4; kind++ {
				if count(t, other, kind) != count(t, m, kind) {
					t.Errorf("Count of %d in %s and %s", kind, text(m), text(other))
				}
			}
			if value(t, "Pools", other, bed.Pools) != value(t, "Pools", m, bed.Pools) {
				t.Errorf("Pools of %s and %s", text(m), text(other))
			}
			if value(t, "Windows", other, bed.Windows) != value(t, "Windows", m, bed.Windows) {
				t.Errorf("Windows of %s and %s", text(m), text(other))
			}
			if !slices.Equal(sorted(value(t, "Sizes", other, bed.Sizes)), sorted(value(t, "Sizes", m, bed.Sizes))) {
				t.Errorf("Sizes of %s and %s", text(m), text(other))
			}
			if !slices.Equal(sorted(value(t, "Sides", other, bed.Sides)), sorted(value(t, "Sides", m, bed.Sides))) {
				t.Errorf("Sides of %s and %s", text(m), text(other))
			}
		}
	}
}

// P2.11: Spread takes no reed away, Mow adds none, water stays water.
func TestGrowthKeeps(t *testing.T) {
	for _, m := range maps() {
		spread, mown := value(t, "Spread", m, bed.Spread), value(t, "Mow", m, bed.Mow)
		if !bed.Valid(spread) || !bed.Valid(mown) || spread.W != m.W || mown.W != m.W {
			t.Fatalf("growth of %s: %v, %v", text(m), spread, mown)
		}
		for i, kind := range m.Squares {
			if kind == api.Reed && spread.Squares[i] != api.Reed || kind != api.Reed && mown.Squares[i] == api.Reed {
				t.Errorf("reed at %d of %s: %s, %s", i, text(m), text(spread), text(mown))
			}
			if (kind == api.Water) != (spread.Squares[i] == api.Water) || (kind == api.Water) != (mown.Squares[i] == api.Water) {
				t.Errorf("water at %d of %s: %s, %s", i, text(m), text(spread), text(mown))
			}
		}
	}
}
