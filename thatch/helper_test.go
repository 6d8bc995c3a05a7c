package thatch_test

import (
	"iter"
	"math"
	"math/big"
	"math/rand/v2"
	"slices"

	"sedge/api"
)

// farNumbers are out of every range, and some of their sums and products overflow.
var farNumbers = []int{math.MinInt, math.MinInt + 1, math.MinInt + 3, math.MinInt / 2, math.MaxInt / 2, math.MaxInt - 1, math.MaxInt, 1 << 32, -1 << 32, 1 << 31}

// lists gives out all lists of so many numbers from 0 on below a bound.
func lists(count, below int) iter.Seq[[]int] {
	return func(yield func([]int) bool) {
		l := make([]int, count)
		for yield(l) {
			i := 0
			for i < count && l[i] == below-1 {
				l[i] = 0
				i++
			}
			if i == count {
				return
			}
			l[i]++
		}
	}
}

// subset returns the numbers from 0 on whose bits are set.
func subset(set int) []int {
	var out []int
	for n := 0; set>>n > 0; n++ {
		if set>>n&1 == 1 {
			out = append(out, n)
		}
	}
	return out
}

// drawn returns different numbers below a bound in ascending order.
func drawn(r *rand.Rand, count, below int) []int {
	l := r.Perm(below)[:count]
	slices.Sort(l)
	return l
}

// roundUp returns the least number that is not below a fraction.
func roundUp(x *big.Rat) int {
	n := new(big.Int).Div(x.Num(), x.Denom())
	if !x.IsInt() {
		n.Add(n, big.NewInt(1))
	}
	return int(n.Int64())
}

// fraction is the fraction of a result, which must be in lowest terms.
func fraction(x *big.Rat) api.Ratio {
	return api.Ratio{N: int(x.Num().Int64()), D: int(x.Denom().Int64())}
}

func rat(n, d int) *big.Rat {
	return big.NewRat(int64(n), int64(d))
}

func times(a, b *big.Rat) *big.Rat {
	return new(big.Rat).Mul(a, b)
}

// pitches are all pitches, by looking up the sums of two squares.
func pitches() []api.Pitch {
	roots := map[int]int{}
	for n := 1; n <= 1000; n++ {
		roots[n*n] = n
	}
	var out []api.Pitch
	for rise := 1; rise <= 1000; rise++ {
		for run := 1; run <= 1000; run++ {
			if slope, is := roots[rise*rise+run*run]; is {
				out = append(out, api.Pitch{Rise: rise, Run: run, Slope: slope})
			}
		}
	}
	return out
}

// somePitches are steep ones and flat ones, with and without a common divisor.
func somePitches() []api.Pitch {
	return []api.Pitch{{Rise: 3, Run: 4, Slope: 5}, {Rise: 4, Run: 3, Slope: 5}, {Rise: 6, Run: 8, Slope: 10}, {Rise: 600, Run: 800, Slope: 1000}, {Rise: 20, Run: 21, Slope: 29}, {Rise: 44, Run: 483, Slope: 485}, {Rise: 924, Run: 43, Slope: 925}, {Rise: 43, Run: 924, Slope: 925}, {Rise: 280, Run: 960, Slope: 1000}, {Rise: 352, Run: 936, Slope: 1000}}
}

// roofs are roofs of all sizes with few pitches, and of few sizes with all pitches.
func roofs() []api.Roof {
	var out []api.Roof
	add := func(long, wide int, p api.Pitch) {
		out = append(out, api.Roof{Long: long, Wide: wide, Pitch: p}, api.Roof{Long: long, Wide: wide, Pitch: p, Hip: true})
	}
	some := somePitches()
	for wide := 2; wide <= 400; wide += 2 {
		for long := wide; long <= 400; long += 2 {
			add(long, wide, some[(wide+long/2)%len(some)])
		}
	}
	for _, p := range pitches() {
		for _, size := range [][2]int{{2, 2}, {40, 24}, {400, 400}, {398, 22}} {
			add(size[0], size[1], p)
		}
	}
	return out
}

// badRoofs are not valid, each for a reason of its own.
func badRoofs() []api.Roof {
	good := api.Roof{Long: 40, Wide: 24, Pitch: api.Pitch{Rise: 3, Run: 4, Slope: 5}}
	out := []api.Roof{{}, {Long: 40, Wide: 24}, {Pitch: good.Pitch}}
	for _, size := range [][2]int{{24, 40}, {40, 42}, {40, 0}, {0, 0}, {40, -2}, {-2, -4}, {40, 1}, {40, 3}, {40, 23}, {41, 24}, {25, 24}, {402, 24}, {402, 402}, {401, 24}, {401, 401}, {1, 1}} {
		out = append(out, api.Roof{Long: size[0], Wide: size[1], Pitch: good.Pitch})
	}
	for _, p := range badPitches() {
		out = append(out, api.Roof{Long: 40, Wide: 24, Pitch: p})
	}
	for _, n := range farNumbers {
		out = append(out, api.Roof{Long: n, Wide: 24, Pitch: good.Pitch}, api.Roof{Long: 40, Wide: n, Pitch: good.Pitch}, api.Roof{Long: n, Wide: n, Pitch: good.Pitch})
	}
	for _, r := range out {
		r.Hip = true
		out = append(out, r)
	}
	return out
}

// badPitches are not valid, some of them only because they are too great, and
// some that have the right squares where these overflow.
func badPitches() []api.Pitch {
	out := []api.Pitch{{}, {Rise: 0, Run: 5, Slope: 5}, {Rise: 5, Run: 0, Slope: 5}, {Rise: -3, Run: 4, Slope: 5}, {Rise: 3, Run: -4, Slope: 5}, {Rise: 3, Run: 4, Slope: -5}, {Rise: 3, Run: 4, Slope: 6}, {Rise: 3, Run: 4, Slope: 7}, {Rise: 3, Run: 5, Slope: 4}, {Rise: 5, Run: 4, Slope: 3}, {Rise: 5, Run: 3, Slope: 4}, {Rise: 385, Run: 924, Slope: 1001}, {Rise: 924, Run: 385, Slope: 1001}, {Rise: 45, Run: 1012, Slope: 1013}, {Rise: 1012, Run: 45, Slope: 1013}, {Rise: 750, Run: 1000, Slope: 1250}, {Rise: 1000, Run: 750, Slope: 1250}, {Rise: 1000, Run: 1000, Slope: 1000}}
	for _, n := range farNumbers {
		out = append(out, api.Pitch{Rise: n, Run: 4, Slope: 5}, api.Pitch{Rise: 3, Run: n, Slope: 5}, api.Pitch{Rise: 3, Run: 4, Slope: n}, api.Pitch{Rise: n, Run: n, Slope: n}, api.Pitch{Rise: n, Run: 4, Slope: n})
	}
	return append(out, api.Pitch{Rise: math.MinInt + 3, Run: 4, Slope: 5}, api.Pitch{Rise: 3, Run: math.MinInt + 4, Slope: 5}, api.Pitch{Rise: 3, Run: 4, Slope: math.MinInt + 5})
}

// laid lays the courses of a coat inch by inch.
func laid(c api.Coat) (layers []int, courses int) {
	layers = make([]int, c.Slant)
	for start := 0; start < c.Slant; start += c.Gauge {
		if !slices.Contains(c.Missing, courses) {
			for inch := start; inch < start+c.Reed && inch < c.Slant; inch++ {
				layers[inch]++
			}
		}
		courses++
	}
	return layers, courses
}

// smallCoats are all coats of few inches.
func smallCoats() []api.Coat {
	var out []api.Coat
	for slant := 1; slant <= 7; slant++ {
		for gauge := 1; gauge <= slant+1; gauge++ {
			for reed := 1; reed <= slant+1; reed++ {
				for set := range 1 << ((slant + gauge - 1) / gauge) {
					out = append(out, api.Coat{Slant: slant, Gauge: gauge, Reed: reed, Missing: subset(set)})
				}
			}
		}
	}
	return out
}

// someCoats are drawn: short ones and long ones, with few courses missing or many.
func someCoats(count int) []api.Coat {
	r := rand.New(rand.NewPCG(uint64(count), 8))
	var out []api.Coat
	for range count {
		wide := []int{1, 3, 20}[r.IntN(3)]
		c := api.Coat{Slant: 1 + r.IntN(250*wide), Gauge: 1 + r.IntN(5*wide), Reed: 1 + r.IntN(10*wide)}
		_, courses := laid(c)
		c.Missing = drawn(r, r.IntN(min(courses, []int{0, 1, 10, 100}[r.IntN(4)])+1), courses)
		out = append(out, c)
	}
	return out
}

// limitCoats are those at the limits.
func limitCoats() []api.Coat {
	hundred := make([]int, 100)
	apart, last := slices.Clone(hundred), slices.Clone(hundred)
	for i := range hundred {
		hundred[i], apart[i], last[i] = i, i*50, 4900+i
	}
	var out []api.Coat
	for _, slant := range []int{1, 2, 99, 100, 101, 199, 200, 201, 4999, 5000} {
		for _, gauge := range []int{1, 2, 99, 100} {
			for _, reed := range []int{1, 2, 99, 100, 101, 199, 200} {
				out = append(out, api.Coat{Slant: slant, Gauge: gauge, Reed: reed})
			}
		}
	}
	for _, missing := range [][]int{hundred, apart, last} {
		for _, reed := range []int{1, 50, 99, 100, 101, 200} {
			out = append(out, api.Coat{Slant: 5000, Gauge: 1, Reed: reed, Missing: missing})
		}
	}
	return append(out, api.Coat{Slant: 5000, Gauge: 50, Reed: 200, Missing: hundred}, api.Coat{Slant: 100, Gauge: 1, Reed: 200, Missing: hundred}, api.Coat{Slant: 20, Gauge: 8, Reed: 18, Missing: hundred[:3:3]})
}

// coats are small ones, drawn ones, and those at the limits.
func coats() []api.Coat {
	return slices.Concat(smallCoats(), larger())
}

// larger are the coats that are not small.
func larger() []api.Coat {
	return slices.Concat(someCoats(300), limitCoats())
}

// badCoats are not valid, each for a reason of its own.
func badCoats() []api.Coat {
	tooMany := make([]int, 101)
	for i := range tooMany {
		tooMany[i] = i
	}
	out := []api.Coat{{}, {Slant: 5000, Gauge: 1, Reed: 200, Missing: tooMany}, {Slant: 5000, Gauge: 1, Reed: 200, Missing: make([]int, 100000)}, {Slant: 101, Gauge: 1, Reed: 5, Missing: tooMany}}
	for _, n := range append([]int{0, -1}, farNumbers...) {
		out = append(out, api.Coat{Slant: n, Gauge: 8, Reed: 18}, api.Coat{Slant: 20, Gauge: n, Reed: 18}, api.Coat{Slant: 20, Gauge: 8, Reed: n}, api.Coat{Slant: n, Gauge: n, Reed: n})
	}
	out = append(out, api.Coat{Slant: 5001, Gauge: 8, Reed: 18}, api.Coat{Slant: 20, Gauge: 101, Reed: 18}, api.Coat{Slant: 20, Gauge: 8, Reed: 201})
	for _, l := range [][]int{{3}, {-1}, {0, 3}, {-1, 0}, {0, 0}, {2, 2}, {1, 0}, {2, 1}, {0, 2, 1}, {0, 1, 1}, {1, 2, 0}, {0, 1, 2, 3}, {0, 1, 2, 2}, {4}, {19}, {math.MinInt}, {math.MaxInt}, {0, math.MinInt}, {0, math.MaxInt}} {
		out = append(out, api.Coat{Slant: 20, Gauge: 8, Reed: 18, Missing: l})
	}
	return append(out, api.Coat{Slant: 24, Gauge: 8, Reed: 18, Missing: []int{3}}, api.Coat{Slant: 16, Gauge: 8, Reed: 18, Missing: []int{2}}, api.Coat{Slant: 1, Gauge: 8, Reed: 18, Missing: []int{1}})
}

// trial is a job with hands.
type trial struct {
	job   []int
	hands int
}

// smallTrials are all jobs of few faces that need few courses.
func smallTrials() []trial {
	var out []trial
	for _, c := range []struct{ faces, most int }{{1, 5}, {2, 5}, {3, 4}, {4, 3}, {5, 2}} {
		for job := range lists(c.faces, c.most+1) {
			for hands := 1; hands <= c.faces+1; hands++ {
				out = append(out, trial{slices.Clone(job), hands})
			}
		}
	}
	return out
}

// someTrials are drawn: the faces need alike or not, and some need nothing.
func someTrials(count int) []trial {
	r := rand.New(rand.NewPCG(uint64(count), 85))
	var out []trial
	for range count {
		job := make([]int, 1+r.IntN(10))
		wide, from := []int{1, 2, 5, 20, 100}[r.IntN(5)], []int{0, 0, 50, 95}[r.IntN(4)]
		for i := range job {
			job[i] = min(100, from+r.IntN(wide+1))
			if r.IntN(8) == 0 {
				job[i] = []int{0, 100}[r.IntN(2)]
			}
		}
		out = append(out, trial{job, 1 + r.IntN(10)})
	}
	return out
}

// limitTrials are those at the limits.
func limitTrials() []trial {
	var out []trial
	for _, n := range []int{0, 1, 99, 100} {
		for _, faces := range []int{1, 2, 9, 10} {
			for hands := 1; hands <= 10; hands++ {
				all := slices.Repeat([]int{n}, faces)
				one := slices.Clone(all)
				one[faces-1] = 100
				out = append(out, trial{all, hands}, trial{one, hands})
			}
		}
	}
	return out
}

// trials are small ones, drawn ones, and those at the limits.
func trials() []trial {
	return slices.Concat(smallTrials(), someTrials(2000), limitTrials())
}

// badJobs are no jobs, each for a reason of its own.
func badJobs() [][]int {
	out := [][]int{nil, {}, make([]int, 11), make([]int, 100000), slices.Repeat([]int{100}, 11), {101}, {-1}, {3, -1, 1}, {3, 1, -1}, {-1, 3, 1}, {3, 101, 1}, {3, 1, 101}, {101, 3, 1}, append(make([]int, 9), 101), append(make([]int, 9), -1)}
	for _, n := range farNumbers {
		out = append(out, []int{n}, []int{n, 1}, []int{1, n}, []int{n, n})
	}
	return out
}

// badHands are too few, or too many.
func badHands() []int {
	return append([]int{0, -1, 11}, farNumbers...)
}

// least returns the least hours by trying all choices of faces in each hour.
func (w trial) least(known map[string]int) int {
	if slices.Max(w.job) == 0 {
		return 0
	}
	key := ""
	for _, n := range w.job {
		key += string(rune('a' + n))
	}
	if n, is := known[key]; is {
		return n
	}
	best := math.MaxInt
	for set := 1; set < 1<<len(w.job); set++ {
		rest := slices.Clone(w.job)
		faces := subset(set)
		for _, face := range faces {
			rest[face]--
		}
		if len(faces) <= w.hands && slices.Min(rest) >= 0 {
			best = min(best, 1+trial{rest, w.hands}.least(known))
		}
	}
	known[key] = best
	return best
}

// isWork says the words of the chapter.
func (w trial) isWork(work [][]int) bool {
	count := map[int]int{}
	for _, hour := range work {
		if len(hour) == 0 || len(hour) > w.hands || !slices.IsSorted(hour) {
			return false
		}
		if len(slices.Compact(slices.Clone(hour))) < len(hour) {
			return false
		}
		for _, face := range hour {
			count[face]++
		}
	}
	for face, n := range w.job {
		if count[face] != n {
			return false
		}
		delete(count, face)
	}
	return len(count) == 0
}
