package thatch_test

import (
	"math/rand/v2"
	"slices"
	"testing"

	"sedge/api"
	"sedge/thatch"
)

// checkWork looks at Hours and Work of a job, and returns the plan.
func checkWork(t *testing.T, w trial) [][]int {
	t.Helper()
	sum := 0
	for _, n := range w.job {
		sum += n
	}
	want := sum / w.hands
	if sum%w.hands > 0 {
		want++
	}
	want = max(want, slices.Max(w.job))
	if n, e := thatch.Hours(w.job, w.hands); n != want || e != api.OK {
		t.Errorf("Hours(%v): %d, error %d, want %d", w, n, e, want)
	}
	work, e := thatch.Work(w.job, w.hands)
	if len(work) != want || !w.isWork(work) || e != api.OK {
		t.Errorf("Work(%v): %v, error %d, want %d hours", w, work, e, want)
	}
	if is, e := thatch.IsWork(w.job, w.hands, work); !is || e != api.OK {
		t.Errorf("IsWork(%v, %v): %v, error %d", w, work, is, e)
	}
	return work
}

// P8.5, P8.9: all jobs of few faces, drawn ones, and those at the limits.
func TestWork(t *testing.T) {
	for _, w := range trials() {
		checkWork(t, w)
	}
}

// P8.9: no work plan has fewer hours.
func TestLeastHours(t *testing.T) {
	known := make([]map[string]int, 11)
	for i := range known {
		known[i] = map[string]int{}
	}
	for _, w := range smallTrials() {
		want := w.least(known[w.hands])
		if n, e := thatch.Hours(w.job, w.hands); n != want || e != api.OK {
			t.Errorf("Hours(%v): %d, error %d, want %d", w, n, e, want)
		}
	}
}

// checkIsWork looks at IsWork of a list.
func checkIsWork(t *testing.T, w trial, work [][]int) {
	t.Helper()
	want := w.isWork(work)
	if is, e := thatch.IsWork(w.job, w.hands, work); is != want || e != api.OK {
		t.Errorf("IsWork(%v, %v): %v, error %d", w, work, is, e)
	}
}

// P8.5: all lists of few short hours.
func TestIsWork(t *testing.T) {
	var hours [][]int
	for count := range 4 {
		for l := range lists(count, 4) {
			hour := slices.Clone(l)
			for i := range hour {
				hour[i]--
			}
			if count < 3 || slices.IsSorted(hour) {
				hours = append(hours, hour)
			}
		}
	}
	for _, job := range [][]int{{0}, {2}, {1, 1}, {2, 1}, {0, 2}, {1, 1, 1}, {2, 0, 1}, {1, 2, 0}} {
		for hands := 1; hands <= 3; hands++ {
			for count := range 4 {
				for choice := range lists(count, len(hours)) {
					work := make([][]int, count)
					for i, n := range choice {
						work[i] = hours[n]
					}
					checkIsWork(t, trial{job, hands}, work)
				}
			}
		}
	}
}

// changed returns a plan with a change or two.
func changed(r *rand.Rand, w trial, plan [][]int) [][]int {
	var work [][]int
	for _, hour := range plan {
		work = append(work, slices.Clone(hour))
	}
	for range 1 + r.IntN(2) {
		if len(work) == 0 {
			work = append(work, []int{})
		}
		i, k := r.IntN(len(work)), r.IntN(len(work))
		face := r.IntN(len(w.job)+2) - 1
		switch r.IntN(6) {
		case 0:
			work[i] = append(work[i], face)
			slices.Sort(work[i])
		case 1:
			work[i], work[k] = work[k], work[i]
		case 2:
			work = slices.Delete(work, i, i+1)
		case 3:
			work = slices.Insert(work, i, []int{face})
		case 4:
			slices.Reverse(work[i])
		default:
			if len(work[i]) > 0 {
				face = work[i][0]
				work[i] = work[i][1:]
				work[k] = append(work[k], face)
				slices.Sort(work[k])
			}
		}
	}
	return work
}

// P8.5: plans of any jobs, with a change or two.
func TestIsWorkOfMany(t *testing.T) {
	r := rand.New(rand.NewPCG(8, 5))
	accepted := 0
	for _, w := range slices.Concat(someTrials(2000), limitTrials()) {
		plan, _ := thatch.Work(w.job, w.hands)
		for range 10 {
			work := changed(r, w, plan)
			checkIsWork(t, w, work)
			if w.isWork(work) {
				accepted++
			}
		}
	}
	if accepted == 0 {
		t.Error("no change makes another plan")
	}
}

// P8.5: lists that are looked at by hand.
func TestIsWorkExamples(t *testing.T) {
	hour := func(faces ...int) []int { return faces }
	alone := slices.Repeat([][]int{{0}}, 100)
	for _, c := range []struct {
		job   []int
		hands int
		work  [][]int
		want  bool
	}{
		{[]int{3, 1, 1}, 2, [][]int{{0, 1}, {0, 2}, {0}}, true},
		{[]int{3, 1, 1}, 2, [][]int{{0}, {0}, {0}, {1}, {2}}, true}, // it may take longer
		{[]int{3, 1, 1}, 2, [][]int{{0, 1, 2}, {0}, {0}}, false},
		{[]int{3, 1, 1}, 3, [][]int{{0, 1, 2}, {0}, {0}}, true},
		{[]int{3, 1, 1}, 2, [][]int{{0, 1}, {0, 2}, {0}, {}}, false},
		{[]int{3, 1, 1}, 2, [][]int{nil, {0, 1}, {0, 2}, {0}}, false},
		{[]int{3, 1, 1}, 2, [][]int{{1, 0}, {0, 2}, {0}}, false},
		{[]int{3, 1, 1}, 2, [][]int{{0, 0}, {1, 2}, {0}}, false},
		{[]int{3, 1, 1}, 2, [][]int{{0, 1}, {0, 2}}, false},
		{[]int{3, 1, 1}, 2, [][]int{{0, 1}, {0, 2}, {0}, {0}}, false},
		{[]int{3, 1, 1}, 2, [][]int{{0, 1}, {0, 2}, {0, 3}}, false},
		{[]int{3, 1, 1}, 2, [][]int{{-1, 0}, {0, 2}, {0, 1}}, false},
		{[]int{3, 1, 1}, 2, nil, false},
		{[]int{0, 0}, 2, nil, true},
		{[]int{0, 0}, 2, [][]int{}, true},
		{[]int{0, 0}, 2, [][]int{{}}, false},
		{[]int{0, 0}, 2, [][]int{{0}}, false},
		{[]int{100}, 1, alone, true},
		{[]int{100}, 1, alone[:99], false},
		{[]int{100}, 10, slices.Concat(alone, alone[:1]), false},
		{[]int{100, 0}, 2, slices.Concat(alone, [][]int{{1}}), false},
		{slices.Repeat([]int{1}, 10), 10, [][]int{hour(0, 1, 2, 3, 4, 5, 6, 7, 8, 9)}, true},
		{slices.Repeat([]int{1}, 10), 9, [][]int{hour(0, 1, 2, 3, 4, 5, 6, 7, 8, 9)}, false},
		{[]int{1}, 10, [][]int{make([]int, 100000)}, false},
		{[]int{1}, 1, slices.Repeat([][]int{{0}}, 2000), false},
		{[]int{1}, 1, slices.Repeat([][]int{{0}}, 2001), false},
		{[]int{0}, 1, make([][]int, 2001), false},
		{[]int{0}, 1, make([][]int, 100000), false},
	} {
		if is, e := thatch.IsWork(c.job, c.hands, c.work); is != c.want || e != api.OK {
			t.Errorf("IsWork(%v, %d, %v): %v, error %d", c.job, c.hands, c.work[:min(len(c.work), 5)], is, e)
		}
	}
	for _, n := range farNumbers {
		for _, work := range [][][]int{{{n}}, {{0, n}}, {{n, 0}}, {{0}, {n}}} {
			if is, e := thatch.IsWork([]int{1, 0}, 2, work); is || e != api.OK {
				t.Errorf("IsWork of %v: %v, error %d", work, is, e)
			}
		}
	}
}

// P8.5: the chapter's third example, and others that are counted by hand.
func TestHoursExamples(t *testing.T) {
	for _, c := range []struct {
		job         []int
		hands, want int
	}{
		{[]int{3, 1, 1}, 2, 3},
		{[]int{3, 1, 1}, 1, 5},
		{[]int{3, 1, 1}, 10, 3},
		{[]int{2, 2, 2}, 2, 3},
		{[]int{1, 1, 1}, 2, 2},
		{[]int{5, 4, 4}, 2, 7},
		{[]int{0}, 1, 0},
		{[]int{0, 0, 0}, 10, 0},
		{[]int{0, 1, 0}, 1, 1},
		{[]int{100}, 10, 100},
		{slices.Repeat([]int{100}, 10), 1, 1000},
		{slices.Repeat([]int{100}, 10), 10, 100},
		{slices.Repeat([]int{100}, 10), 9, 112},
	} {
		if n, e := thatch.Hours(c.job, c.hands); n != c.want || e != api.OK {
			t.Errorf("Hours(%v, %d): %d, error %d", c.job, c.hands, n, e)
		}
	}
}

// checkJobErrors looks at all functions of a job with an error.
func checkJobErrors(t *testing.T, job []int, hands int, want api.Errno) {
	t.Helper()
	first := job[:min(len(job), 12)]
	if n, e := thatch.Hours(job, hands); n != 0 || e != want {
		t.Errorf("Hours(%v, %d): %d, error %d", first, hands, n, e)
	}
	if l, e := thatch.Work(job, hands); len(l) != 0 || e != want {
		t.Errorf("Work(%v, %d): %v, error %d", first, hands, l, e)
	}
	for _, work := range [][][]int{nil, {{0}}, {{0}, nil}, {{-1}}, make([][]int, 2001)} {
		if is, e := thatch.IsWork(job, hands, work); is || e != want {
			t.Errorf("IsWork(%v, %d, %d hours): %v, error %d", first, hands, len(work), is, e)
		}
	}
}

// P8.1, R2: ErrJob comes ahead of ErrArg, and both with nothing else.
func TestJobErrors(t *testing.T) {
	for _, job := range badJobs() {
		for _, hands := range append([]int{1, 2, 10}, badHands()...) {
			checkJobErrors(t, job, hands, api.ErrJob)
		}
	}
	for _, job := range [][]int{{0}, {1}, {3, 1, 1}, slices.Repeat([]int{100}, 10)} {
		for _, hands := range badHands() {
			checkJobErrors(t, job, hands, api.ErrArg)
		}
	}
}

// R4: arguments are neither changed nor kept, nor read beyond their length; the
// hours of a result share no memory.
func TestJobsAreKept(t *testing.T) {
	backing := []int{3, 1, 1, 101}
	job := backing[:3]
	work := checkWork(t, trial{job, 2})
	thatch.IsWork(job, 2, [][]int{{0, 1}, {2, 0}})
	if !slices.Equal(backing, []int{3, 1, 1, 101}) {
		t.Errorf("a job is changed: %v", backing)
	}
	again := checkWork(t, trial{slices.Clone(job), 2})
	if !slices.EqualFunc(work, again, slices.Equal) {
		t.Errorf("Work of %v: %v and %v", job, work, again)
	}
	for i := range work {
		clear(append(work[i], 77, 77))
		for k := i + 1; k < len(work); k++ {
			if !slices.Equal(work[k], again[k]) {
				t.Errorf("hours share memory: %v, %v", work, again)
			}
		}
	}
	hours := [][]int{{0, 1}, {0, 2}, {0}}
	thatch.IsWork(job, 2, hours)
	if !slices.EqualFunc(hours, [][]int{{0, 1}, {0, 2}, {0}}, slices.Equal) {
		t.Errorf("hours are changed: %v", hours)
	}
	backing[0] = 1
	checkWork(t, trial{job, 2})
}

// Equal calls have equal results, one after the other.
func TestWorkAgain(t *testing.T) {
	for _, w := range someTrials(200) {
		work := checkWork(t, w)
		for range 3 {
			if l, e := thatch.Work(w.job, w.hands); !slices.EqualFunc(l, work, slices.Equal) || e != api.OK {
				t.Errorf("Work(%v): %v and %v", w, work, l)
			}
		}
	}
}
