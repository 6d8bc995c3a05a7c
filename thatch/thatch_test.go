package thatch_test

import (
	"cmp"
	"math/big"
	"slices"
	"testing"

	"sedge/api"
	"sedge/thatch"
)

// P8.2: all triples of small numbers, all pitches, and others that are none.
func TestValidPitch(t *testing.T) {
	for l := range lists(3, 45) {
		p := api.Pitch{Rise: l[0] - 3, Run: l[1] - 3, Slope: l[2] - 3}
		want := p.Rise > 0 && p.Run > 0 && p.Slope > 0 && p.Rise*p.Rise+p.Run*p.Run == p.Slope*p.Slope
		if thatch.ValidPitch(p) != want {
			t.Errorf("ValidPitch(%v): %v", p, !want)
		}
	}
	for _, p := range pitches() {
		if !thatch.ValidPitch(p) {
			t.Errorf("%v is not valid", p)
		}
		p.Slope++
		if thatch.ValidPitch(p) {
			t.Errorf("%v is valid", p)
		}
	}
	for _, p := range badPitches() {
		if thatch.ValidPitch(p) {
			t.Errorf("%v is valid", p)
		}
	}
}

// divide are all pitches for Pitches, by Euclid's formula, in its order.
func divide() []api.Pitch {
	var out []api.Pitch
	for m := 2; m*m <= 1000; m++ {
		for n := 1; n < m; n++ {
			a, b, slope := m*m-n*n, 2*m*n, m*m+n*n
			common := new(big.Int).GCD(nil, nil, big.NewInt(int64(m)), big.NewInt(int64(n)))
			if (m-n)%2 == 1 && common.Int64() == 1 && slope <= 1000 {
				out = append(out, api.Pitch{Rise: min(a, b), Run: max(a, b), Slope: slope})
			}
		}
	}
	slices.SortFunc(out, func(a, b api.Pitch) int {
		return cmp.Or(a.Slope-b.Slope, a.Rise-b.Rise)
	})
	return out
}

// P8.2, P8.6: up to each slope. All are pitches, and each list begins with those
// ahead of it.
func TestPitches(t *testing.T) {
	all := divide()
	var before []api.Pitch
	for most := 1; most <= 1000; most++ {
		l, e := thatch.Pitches(most)
		end := 0
		for end < len(all) && all[end].Slope <= most {
			end++
		}
		if !slices.Equal(l, all[:end]) || e != api.OK {
			t.Errorf("Pitches(%d): %d of them, error %d, want %d", most, len(l), e, end)
		}
		if len(l) < len(before) || !slices.Equal(l[:len(before)], before) {
			t.Errorf("Pitches(%d) does not begin with those of %d", most, most-1)
		}
		before = l
	}
	for _, p := range before {
		if !thatch.ValidPitch(p) {
			t.Errorf("Pitches: %v is not valid", p)
		}
	}
	if len(before) != 158 || before[0] != (api.Pitch{Rise: 3, Run: 4, Slope: 5}) || before[157].Slope != 997 {
		t.Errorf("Pitches(1000): %d of them, %v", len(before), before)
	}
}

// P8.2: pitches that are looked at by hand, and the errors.
func TestPitchesExamples(t *testing.T) {
	three, five, eight := api.Pitch{Rise: 3, Run: 4, Slope: 5}, api.Pitch{Rise: 5, Run: 12, Slope: 13}, api.Pitch{Rise: 8, Run: 15, Slope: 17}
	for most, want := range map[int][]api.Pitch{1: nil, 4: nil, 5: {three}, 12: {three}, 13: {three, five}, 16: {three, five}, 17: {three, five, eight}, 24: {three, five, eight}} {
		if l, e := thatch.Pitches(most); !slices.Equal(l, want) || e != api.OK {
			t.Errorf("Pitches(%d): %v, error %d", most, l, e)
		}
	}
	for _, most := range append([]int{0, -1, 1001}, farNumbers...) {
		if l, e := thatch.Pitches(most); len(l) != 0 || e != api.ErrArg {
			t.Errorf("Pitches(%d): %d of them, error %d", most, len(l), e)
		}
	}
}

// P8.2: all small sizes, roofs that are valid, and those that are not.
func TestValidRoof(t *testing.T) {
	for l := range lists(2, 30) {
		r := api.Roof{Long: l[0] - 5, Wide: l[1] - 5, Pitch: api.Pitch{Rise: 3, Run: 4, Slope: 5}, Hip: l[0]%3 == 0}
		want := r.Wide > 0 && r.Wide%2 == 0 && r.Long%2 == 0 && r.Long >= r.Wide
		if thatch.ValidRoof(r) != want {
			t.Errorf("ValidRoof(%v): %v", r, !want)
		}
	}
	for _, r := range roofs() {
		if !thatch.ValidRoof(r) {
			t.Errorf("%v is not valid", r)
		}
	}
	for _, r := range badRoofs() {
		if thatch.ValidRoof(r) {
			t.Errorf("%v is valid", r)
		}
	}
}

// faces are the areas of faces as trapezes over the ground, from their eaves and
// their upper edge.
func faces(r api.Roof) []*big.Rat {
	face := func(eaves, upper int) *big.Rat {
		return times(rat((eaves+upper)*r.Wide/2, 2), rat(r.Pitch.Slope, r.Pitch.Run))
	}
	if !r.Hip {
		return []*big.Rat{face(r.Long, r.Long), face(r.Long, r.Long)}
	}
	side, end := face(r.Long, r.Long-r.Wide), face(r.Wide, 0)
	return []*big.Rat{side, side, end, end}
}

// P8.3, P8.7: any roof. The faces add up to the area, which is the same with and
// without Hip.
func TestAreas(t *testing.T) {
	for _, r := range roofs() {
		sum := new(big.Rat)
		var want []api.Ratio
		for _, face := range faces(r) {
			sum.Add(sum, face)
			want = append(want, fraction(face))
		}
		if l, e := thatch.Faces(r); !slices.Equal(l, want) || e != api.OK {
			t.Errorf("Faces(%v): %v, error %d, want %v", r, l, e, want)
		}
		if a, e := thatch.Area(r); a != fraction(sum) || e != api.OK {
			t.Errorf("Area(%v): %v, error %d, want %v", r, a, e, sum)
		}
		if sum.Cmp(times(rat(r.Long*r.Wide, 1), rat(r.Pitch.Slope, r.Pitch.Run))) != 0 {
			t.Errorf("the faces of %v add up to %v", r, sum)
		}
	}
}

// P8.3: any roof.
func TestRidgeAndSlant(t *testing.T) {
	for _, r := range roofs() {
		length := r.Long
		if r.Hip {
			length = r.Long - r.Wide
		}
		height := times(rat(r.Wide, 2), rat(r.Pitch.Rise, r.Pitch.Run))
		if n, h, e := thatch.Ridge(r); n != length || h != fraction(height) || e != api.OK {
			t.Errorf("Ridge(%v): %d, %v, error %d, want %d, %v", r, n, h, e, length, height)
		}
		slant := roundUp(times(rat(r.Wide*6, 1), rat(r.Pitch.Slope, r.Pitch.Run)))
		if n, e := thatch.Slant(r); n != slant || e != api.OK {
			t.Errorf("Slant(%v): %d, error %d, want %d", r, n, e, slant)
		}
	}
}

// P8.3, P8.7: any roof. A greater square needs no less.
func TestNeeds(t *testing.T) {
	for _, r := range roofs() {
		area := times(rat(r.Long*r.Wide, 1), rat(r.Pitch.Slope, r.Pitch.Run))
		before := 0
		for _, square := range []int{1, 2, 7, 90, 99, 100, 101, 200, 999, 1000} {
			want := roundUp(times(area, rat(square, 100)))
			n, e := thatch.Needs(r, square)
			if n != want || n < before || e != api.OK {
				t.Errorf("Needs(%v, %d): %d, error %d, want %d", r, square, n, e, want)
			}
			before = n
		}
	}
}

// P8.3: the chapter's first example, and others that are counted by hand.
func TestRoofExamples(t *testing.T) {
	whole := func(n int) api.Ratio { return api.Ratio{N: n, D: 1} }
	flat, steep := api.Pitch{Rise: 3, Run: 4, Slope: 5}, api.Pitch{Rise: 4, Run: 3, Slope: 5}
	for _, c := range []struct {
		r             api.Roof
		area          api.Ratio
		faces         []api.Ratio
		length        int
		height        api.Ratio
		slant, square int
		needs         int
	}{
		{api.Roof{Long: 40, Wide: 24, Pitch: flat}, whole(1200), []api.Ratio{whole(600), whole(600)}, 40, whole(9), 180, 90, 1080},
		{api.Roof{Long: 40, Wide: 24, Pitch: flat, Hip: true}, whole(1200), []api.Ratio{whole(420), whole(420), whole(180), whole(180)}, 16, whole(9), 180, 100, 1200},
		{api.Roof{Long: 2, Wide: 2, Pitch: flat}, whole(5), []api.Ratio{{N: 5, D: 2}, {N: 5, D: 2}}, 2, api.Ratio{N: 3, D: 4}, 15, 1, 1},
		{api.Roof{Long: 2, Wide: 2, Pitch: flat, Hip: true}, whole(5), []api.Ratio{{N: 5, D: 4}, {N: 5, D: 4}, {N: 5, D: 4}, {N: 5, D: 4}}, 0, api.Ratio{N: 3, D: 4}, 15, 20, 1},
		{api.Roof{Long: 2, Wide: 2, Pitch: flat, Hip: true}, whole(5), []api.Ratio{{N: 5, D: 4}, {N: 5, D: 4}, {N: 5, D: 4}, {N: 5, D: 4}}, 0, api.Ratio{N: 3, D: 4}, 15, 21, 2},
		{api.Roof{Long: 4, Wide: 2, Pitch: steep, Hip: true}, api.Ratio{N: 40, D: 3}, []api.Ratio{whole(5), whole(5), {N: 5, D: 3}, {N: 5, D: 3}}, 2, api.Ratio{N: 4, D: 3}, 20, 1000, 134},
		{api.Roof{Long: 2, Wide: 2, Pitch: api.Pitch{Rise: 5, Run: 12, Slope: 13}}, api.Ratio{N: 13, D: 3}, []api.Ratio{{N: 13, D: 6}, {N: 13, D: 6}}, 2, api.Ratio{N: 5, D: 12}, 13, 300, 13},
		{api.Roof{Long: 2, Wide: 2, Pitch: api.Pitch{Rise: 12, Run: 16, Slope: 20}}, whole(5), []api.Ratio{{N: 5, D: 2}, {N: 5, D: 2}}, 2, api.Ratio{N: 3, D: 4}, 15, 1, 1},
		{api.Roof{Long: 4, Wide: 2, Pitch: api.Pitch{Rise: 8, Run: 15, Slope: 17}}, api.Ratio{N: 136, D: 15}, []api.Ratio{{N: 68, D: 15}, {N: 68, D: 15}}, 4, api.Ratio{N: 8, D: 15}, 14, 100, 10},
		{api.Roof{Long: 400, Wide: 400, Pitch: api.Pitch{Rise: 924, Run: 43, Slope: 925}, Hip: true}, api.Ratio{N: 148000000, D: 43}, []api.Ratio{{N: 37000000, D: 43}, {N: 37000000, D: 43}, {N: 37000000, D: 43}, {N: 37000000, D: 43}}, 0, api.Ratio{N: 184800, D: 43}, 51628, 1000, 34418605},
	} {
		if a, e := thatch.Area(c.r); a != c.area || e != api.OK {
			t.Errorf("Area(%v): %v, error %d", c.r, a, e)
		}
		if l, e := thatch.Faces(c.r); !slices.Equal(l, c.faces) || e != api.OK {
			t.Errorf("Faces(%v): %v, error %d", c.r, l, e)
		}
		if n, h, e := thatch.Ridge(c.r); n != c.length || h != c.height || e != api.OK {
			t.Errorf("Ridge(%v): %d, %v, error %d", c.r, n, h, e)
		}
		if n, e := thatch.Slant(c.r); n != c.slant || e != api.OK {
			t.Errorf("Slant(%v): %d, error %d", c.r, n, e)
		}
		if n, e := thatch.Needs(c.r, c.square); n != c.needs || e != api.OK {
			t.Errorf("Needs(%v, %d): %d, error %d", c.r, c.square, n, e)
		}
	}
}

// P8.1, R2: ErrRoof comes ahead of ErrArg, and with nothing else.
func TestRoofErrors(t *testing.T) {
	for _, r := range badRoofs() {
		if a, e := thatch.Area(r); a != (api.Ratio{}) || e != api.ErrRoof {
			t.Errorf("Area(%v): %v, error %d", r, a, e)
		}
		if l, e := thatch.Faces(r); len(l) != 0 || e != api.ErrRoof {
			t.Errorf("Faces(%v): %v, error %d", r, l, e)
		}
		if n, h, e := thatch.Ridge(r); n != 0 || h != (api.Ratio{}) || e != api.ErrRoof {
			t.Errorf("Ridge(%v): %d, %v, error %d", r, n, h, e)
		}
		if n, e := thatch.Slant(r); n != 0 || e != api.ErrRoof {
			t.Errorf("Slant(%v): %d, error %d", r, n, e)
		}
		for _, square := range append([]int{90, 0, -1, 1001}, farNumbers...) {
			if n, e := thatch.Needs(r, square); n != 0 || e != api.ErrRoof {
				t.Errorf("Needs(%v, %d): %d, error %d", r, square, n, e)
			}
		}
	}
	for _, p := range somePitches() {
		for _, square := range append([]int{0, -1, 1001}, farNumbers...) {
			r := api.Roof{Long: 400, Wide: 400, Pitch: p}
			if n, e := thatch.Needs(r, square); n != 0 || e != api.ErrArg {
				t.Errorf("Needs(%v, %d): %d, error %d", r, square, n, e)
			}
		}
	}
}

// R4: results are new memory.
func TestRoofResults(t *testing.T) {
	first, _ := thatch.Pitches(100)
	again := slices.Clone(first)
	clear(first)
	if l, _ := thatch.Pitches(100); !slices.Equal(l, again) {
		t.Errorf("Pitches(100): %v, want %v", l, again)
	}
	r := api.Roof{Long: 40, Wide: 24, Pitch: api.Pitch{Rise: 3, Run: 4, Slope: 5}, Hip: true}
	areas, _ := thatch.Faces(r)
	kept := slices.Clone(areas)
	clear(areas)
	if l, _ := thatch.Faces(r); !slices.Equal(l, kept) {
		t.Errorf("Faces(%v): %v, want %v", r, l, kept)
	}
}
