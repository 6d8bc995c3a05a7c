package burn_test

import (
	"slices"
	"testing"

	"sedge/api"
	"sedge/burn"
)

// P4.3, P4.8: the first course that takes the time, by courses that are made
// longer, and by all courses of small fields.
func TestCourse(t *testing.T) {
	for _, b := range blazes() {
		all := b.times()
		for to, want := range b.firsts() {
			checkCourse(t, b, to, want, all[to])
		}
	}
	for _, b := range append(smallBlazes(), someBlazes(100, 4)...) {
		all := b.times()
		want := make([][]int, len(all))
		b.courses(func(course []int, takes int) {
			end := course[len(course)-1]
			if takes == all[end] && (want[end] == nil || slices.Compare(course, want[end]) < 0) {
				want[end] = slices.Clone(course)
			}
		})
		for to := range want {
			checkCourse(t, b, to, want[to], all[to])
		}
	}
}

// checkCourse looks whether a course is the one that is wanted, none for a
// square without a time, and whether it takes its time.
func checkCourse(t *testing.T, b blaze, to int, want []int, time int) {
	t.Helper()
	l, e := burn.Course(b.f, b.w, b.starts, to)
	if time == -1 {
		if len(l) != 0 || e != api.ErrNone {
			t.Errorf("Course(%v, %d): %v, error %d", b, to, l, e)
		}
		return
	}
	if !slices.Equal(l, want) || e != api.OK {
		t.Errorf("Course(%v, %d): %v, error %d, want %v", b, to, l, e, want)
		return
	}
	if is, e := burn.IsCourse(b.f, b.w, b.starts, l); !is || e != api.OK {
		t.Errorf("IsCourse(%v, %v): %v, error %d", b, l, is, e)
	}
	if n, e := burn.Takes(b.f, b.w, b.starts, l); n != time || e != api.OK {
		t.Errorf("Takes(%v, %v): %d, error %d, want %d", b, l, n, e, time)
	}
}

// P4.3: courses that are found by hand.
func TestCourseExamples(t *testing.T) {
	calm, square := api.Wind{}, even(3, 3, 1)
	for _, c := range []struct {
		b    blaze
		to   int
		want []int
	}{
		{blaze{square, calm, []int{0}}, 8, []int{0, 1, 2, 5, 8}},
		{blaze{square, calm, []int{8}}, 0, []int{8, 5, 2, 1, 0}}, // up comes ahead of left
		{blaze{square, calm, []int{2}}, 6, []int{2, 1, 0, 3, 6}}, // left ahead of down
		{blaze{square, calm, []int{6}}, 2, []int{6, 3, 0, 1, 2}}, // up ahead of right
		{blaze{square, calm, []int{8, 0}}, 4, []int{0, 1, 4}},    // the start with the least index
		{blaze{square, calm, []int{8, 2, 6}}, 4, []int{2, 1, 4}},
		{blaze{square, calm, []int{8, 0}}, 5, []int{8, 5}}, // the nearer start
		{blaze{square, calm, []int{8, 0}}, 8, []int{8}},    // a start is its own course
		{blaze{square, wind(0, 0, 1, 0), []int{0}}, 8, []int{0, 1, 2, 5, 8}},
		{blaze{field(3, 1, 2, 1, 1, 1, 1, 1, 1, 1), calm, []int{0}}, 8, []int{0, 3, 4, 5, 8}}, // past the fuel of 2
		{blaze{field(3, 1, 2, 1), wind(9, 9, 9, 9), []int{0}}, 2, []int{0, 1, 2}},
	} {
		checkCourse(t, c.b, c.to, c.want, c.b.times()[c.to])
	}
	if l, e := burn.Course(winding(100), wind(100, 100, 100, 100), []int{0}, 89); len(l) != 54 || e != api.OK {
		t.Errorf("Course through the winding lane: %v, error %d", l, e)
	}
}

// P4.3: squares that are none, bare or out of reach.
func TestCourseErrors(t *testing.T) {
	f := field(3, 1, 0, 1, 0, 0, 1)
	for _, at := range append([]int{-1, 6, 7}, farNumbers...) {
		if l, e := burn.Course(f, api.Wind{}, []int{0}, at); len(l) != 0 || e != api.ErrArg {
			t.Errorf("Course to %d: %v, error %d", at, l, e)
		}
	}
	for _, at := range []int{1, 2, 3, 4, 5} {
		if l, e := burn.Course(f, api.Wind{}, []int{0}, at); len(l) != 0 || e != api.ErrNone {
			t.Errorf("Course to %d: %v, error %d", at, l, e)
		}
	}
}

// P4.3: every list of few squares, and of what lies around them; all courses
// of small fields; and long lists.
func TestIsCourse(t *testing.T) {
	for _, b := range []blaze{
		{even(3, 2, 1), wind(1, 2, 3, 4), []int{1}},
		{field(3, 1, 2, 3, 4, 0, 6), wind(10, 20, 30, 40), []int{5, 0}},
		{field(2, 1, 2, 3, 4, 5, 6), wind(10, 20, 30, 40), []int{5, 2}},
		{even(1, 6, 1), wind(1, 2, 3, 4), []int{3}},
	} {
		lists(5, 7, func(l []int) {
			l = slices.Clone(l)
			for i := range l {
				l[i]--
			}
			for k := range 6 {
				if k < 2 || l[0] == 3 { // the longer ones alone, and the shorter ones not again and again
					checkTakes(t, b, l[:5-k])
				}
			}
		})
		for n := range 8 {
			checkTakes(t, b, []int{n - 1})
			for m := range 8 {
				checkTakes(t, b, []int{n - 1, m - 1})
			}
		}
	}
	for _, b := range append(smallBlazes(), someBlazes(60, 4)...) {
		b.courses(func(course []int, takes int) {
			if n, e := burn.Takes(b.f, b.w, b.starts, course); n != takes || e != api.OK {
				t.Errorf("Takes(%v, %v): %d, error %d, want %d", b, course, n, e, takes)
			}
		})
	}
	b := blaze{even(10, 10, 100), wind(100, 100, 100, 100), []int{0}}
	var long []int // over all squares, there and back row by row
	for at := range 100 {
		long = append(long, at)
		if at/10%2 == 1 {
			long[at] = at/10*10 + 9 - at%10
		}
	}
	checkTakes(t, b, long)
	if n, e := burn.Takes(b.f, b.w, b.starts, long); n != 99*200 || e != api.OK {
		t.Errorf("Takes over all squares: %d, error %d", n, e)
	}
	for _, n := range append([]int{0, 1, 80, 90, 100, 81, 99, -1}, farNumbers...) {
		checkTakes(t, b, append(slices.Clone(long), n))
		checkTakes(t, b, []int{n, 0})
		checkTakes(t, b, []int{0, 1, n, 3})
	}
	checkTakes(t, b, []int{9, 10})                       // the rim is no way over
	checkTakes(t, b, []int{0, 10, 9})                    // nor back
	checkTakes(t, b, nil)                                // an empty list
	checkTakes(t, b, []int{0, 1, 0})                     // the start again
	checkTakes(t, b, slices.Repeat([]int{0, 1}, 100000)) // very long
	checkTakes(t, blaze{b.f, b.w, []int{0, 2}}, []int{0, 1, 2})
	checkTakes(t, blaze{b.f, b.w, []int{0, 2}}, []int{0, 1, 2, 3})
}

// checkTakes compares what is said of a list with the words of the chapter.
func checkTakes(t *testing.T, b blaze, l []int) {
	t.Helper()
	want, isCourse := 0, b.isCourse(l)
	for i := 1; i < len(l) && isCourse; i++ {
		want += b.cost(l[i-1], l[i])
	}
	if is, e := burn.IsCourse(b.f, b.w, b.starts, l); is != isCourse || e != api.OK {
		t.Errorf("IsCourse(%v, %v): %v, error %d", b, l, is, e)
	}
	n, e := burn.Takes(b.f, b.w, b.starts, l)
	if n != want || isCourse && e != api.OK || !isCourse && e != api.ErrNone {
		t.Errorf("Takes(%v, %v): %d, error %d, want %d", b, l, n, e, want)
	}
}
