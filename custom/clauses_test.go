package custom_test

import (
	"fmt"
	"maps"
	"math/rand/v2"
	"slices"
	"strings"
	"testing"

	"sedge/api"
	"sedge/custom"
)

// checkClosed looks at Closed of a set, also in another order and with repetitions.
func checkClosed(r *rand.Rand, w law, l []instance, texts []string) string {
	want := isClosed(l, texts)
	b, set := w.book(), atoms(texts)
	for range 2 {
		if is, e := custom.Closed(b, set); is != want || e != api.OK {
			return fmt.Sprintf("Closed(%q): %v, error %d", allTold(set), is, e)
		}
		for range len(set) / 2 {
			set = append(set, set[r.IntN(len(set))])
		}
		r.Shuffle(len(set), func(i, k int) { set[i], set[k] = set[k], set[i] })
	}
	return ""
}

// P9.6, P9.9: sets of small books; what follows is in all that are closed.
func TestClosedSmall(t *testing.T) {
	t.Parallel()
	r := rand.New(rand.NewPCG(9, 6))
	universe := []string{"p(a)", "p(b)", "q(a, a)", "q(a, b)", "q(b, a)", "q(b, b)"}
	for i, w := range smallLaws() {
		l := w.instances()
		follows := rounds(l)
		for set := i % 5; set < 64; set += 5 {
			var texts []string
			for k, text := range universe {
				if set>>k&1 == 1 {
					texts = append(texts, text)
				}
			}
			if said := checkClosed(r, w, l, texts); said != "" {
				t.Errorf("%v: %s", w, said)
			}
			if is, _ := custom.Closed(w.book(), atoms(texts)); is {
				for text := range follows {
					if !slices.Contains(texts, text) {
						t.Errorf("%v: %s is not in %q, which is closed", w, text, texts)
					}
				}
			}
		}
	}
}

// P9.6, P9.9: All is closed; and drawn sets, with words that the book does not have.
func TestClosed(t *testing.T) {
	t.Parallel()
	r := rand.New(rand.NewPCG(9, 66))
	closed := 0
	for _, w := range slices.Concat(exampleLaws(), drawnLaws(500)) {
		l := w.instances()
		all := slices.Sorted(maps.Keys(rounds(l)))
		universe := append(w.universe(), "other(a)", "other(zz, a)", "p(a)", "p(a, b)", "q(zz)")
		for i := range 12 {
			texts := slices.Clone(all)
			for range r.IntN(4) {
				texts = append(texts, universe[r.IntN(len(universe))])
			}
			if i%4 == 0 && len(texts) > 0 {
				at := r.IntN(len(texts))
				texts = slices.Delete(texts, at, at+1)
			}
			if i%4 == 1 {
				texts = slices.Compact(slices.Sorted(slices.Values(append(texts, universe...))))
			}
			if i == 2 {
				texts = all
			}
			if len(texts) > 600 {
				continue
			}
			if said := checkClosed(r, w, l, texts); said != "" {
				t.Errorf("%v: %s", w, said)
			}
			if isClosed(l, texts) {
				closed++
			}
			if i == 2 && !isClosed(l, texts) {
				t.Errorf("%v: what follows is not closed: %q", w, texts)
			}
		}
	}
	if closed < 1000 {
		t.Errorf("only %d sets are closed", closed)
	}
}

// P9.6: sets that are looked at by hand.
func TestClosedExamples(t *testing.T) {
	for _, c := range []struct {
		book, set string
		want      bool
	}{
		{"", "", true},
		{"", "p(a); q(a, b)", true},
		{"p(a)", "", false},
		{"p(a)", "p(a)", true},
		{"p(a)", "p(b)", false},
		{"p(a)", "p(a, a)", false},
		{"p(X) if q(X)", "", true},
		{"p(X) if q(X)", "q(a)", true},
		{"p(X) if q(X); p(a) if q(b)", "q(c)", true},
		{"p(X) if q(X); p(a) if q(b)", "q(a)", false},
		{"p(X) if q(X); p(a) if q(b)", "q(a); p(a)", true},
		{"p(X) if q(X); p(a) if q(b)", "q(b)", false},
		{"p(X) if q(X); p(a) if q(b)", "q(b); p(b)", false},
		{"p(X) if q(X); p(a) if q(b)", "q(b); p(b); p(a)", true},
		{"p(X) if q(X, Y); r(a)", "r(a); q(a, zz)", true},
		{"p(X) if q(X, Y); r(a)", "r(a); q(zz, a)", true},
		{"p(X) if q(X, Y); r(a)", "r(a); q(a, a)", false},
		{"p(X) if q(X, Y); r(a)", "q(a); r(a)", true},
		{"f(X, Z) if f(X, Y) and f(Y, Z); g(a, b) if h(c)", "f(a, b); f(b, c)", false},
		{"f(X, Z) if f(X, Y) and f(Y, Z); g(a, b) if h(c)", "f(a, b); f(b, c); f(a, c)", true},
		{"f(X, Z) if f(X, Y) and f(Y, Z); g(a, b) if h(c)", "f(a, zz); f(zz, c)", true},
		{"f(X, Z) if f(X, Y) and f(Y, Z); g(a, b) if h(c)", "f(a, b); f(zz, c)", true},
		{"f(X, Z) if f(X, Y) and f(Y, Z); g(a, b) if h(c)", "h(c)", false},
	} {
		if is, e := custom.Closed(read(c.book).book(), atoms(slices.Concat(read(c.set)...))); is != c.want || e != api.OK {
			t.Errorf("Closed(%q, %q): %v, error %d", c.book, c.set, is, e)
		}
	}
}

// P9.6: ErrArg for more than 1000 atoms, also if one is not plain.
func TestClosedErrors(t *testing.T) {
	b := read("p(a); q(X, Y) if p(X) and p(Y)").book()
	right := atoms([]string{"p(a)", "q(a, a)"})
	for _, count := range []int{2, 500, 999, 1000, 1001, 1002, 100000} {
		set := slices.Repeat(right, count)[:count]
		is, e := custom.Closed(b, set)
		if count <= 1000 && (!is || e != api.OK) || count > 1000 && (is || e != api.ErrArg) {
			t.Errorf("Closed with %d atoms: %v, error %d", count, is, e)
		}
		for _, at := range []int{0, count - 1} {
			for _, a := range []api.Atom{{}, {Pred: "p"}, atom("p(X)"), {Pred: "p", Args: []string{"if"}}} {
				bad := slices.Clone(set)
				bad[at] = a
				want := api.ErrAtom
				if count > 1000 {
					want = api.ErrArg
				}
				if is, e := custom.Closed(b, bad); is || e != want {
					t.Errorf("Closed with %d atoms, %v at %d: %v, error %d", count, a, at, is, e)
				}
			}
		}
	}
	// What is not plain counts also where the set is not closed.
	if is, e := custom.Closed(b, atoms([]string{"p(b)", "q(X, a)"})); is || e != api.ErrAtom {
		t.Errorf("Closed: %v, error %d", is, e)
	}
	distinct := expand("p(A, B)", strings.Fields("i j k l m n o r s t u v w x y z ia ja ka la ma na oa ra sa ta ua va wa xa ya za ib"))[:999]
	if is, e := custom.Closed(read("p(i, j); p(X, Y) if p(X, Y)").book(), atoms(append(distinct, "p(i, j)"))); !is || e != api.OK {
		t.Errorf("Closed with very many atoms: %v, error %d", is, e)
	}
	all, _ := custom.All(crowded().book())
	if is, e := custom.Closed(crowded().book(), all); !is || len(all) != 908 || e != api.OK {
		t.Errorf("Closed of all %d that follow: %v, error %d", len(all), is, e)
	}
	if is, e := custom.Closed(crowded().book(), all[1:]); is || e != api.OK {
		t.Errorf("Closed of all but one: %v, error %d", is, e)
	}
}

// checkWithout holds Without of each clause, and Idle, against the instances of the
// others.
func checkWithout(w law) string {
	b, l := w.book(), w.instances()
	all := rounds(l)
	var idle []int
	for i := range b {
		rest := rounds(without(l, i))
		var want []string
		for text := range all {
			if rest[text] == 0 {
				want = append(want, text)
			}
		}
		slices.Sort(want)
		if len(want) == 0 {
			idle = append(idle, i)
		}
		if got, e := custom.Without(b, i); !sameTexts(got, want) || e != api.OK {
			return fmt.Sprintf("Without(%d): %q, error %d, want %q", i, allTold(got), e, want)
		}
	}
	if got, e := custom.Idle(b); !slices.Equal(got, idle) || e != api.OK {
		return fmt.Sprintf("Idle: %v, error %d, want %v", got, e, idle)
	}
	return ""
}

// P9.7, P9.11: what is lost without a clause.
func TestWithout(t *testing.T) {
	t.Parallel()
	each(t, slices.Concat(laws(), limitLaws()[:3]), checkWithout)
}

// P9.7: books that are looked at by hand.
func TestWithoutExamples(t *testing.T) {
	for _, c := range []struct {
		book string
		lost []string
		idle []int
	}{
		{"", nil, nil},
		{"p(a)", []string{"p(a)"}, nil},
		{"p(X) if p(X)", []string{""}, []int{0}},
		{"p(a); p(a)", []string{"", ""}, []int{0, 1}},
		{"p(a); q(X) if p(X)", []string{"p(a); q(a)", "q(a)"}, nil},
		{"p(a); q(X) if p(X); q(a)", []string{"p(a)", "", ""}, []int{1, 2}},
		{"q(b) if p(X); p(a); r(X) if q(X)", []string{"q(b); r(b)", "p(a); q(b); r(b)", "r(b)"}, nil},
		{"p(a) if p(b); p(b) if p(a); p(a)", []string{"", "p(b)", "p(a); p(b)"}, []int{0}},
		{"p(a) if q(z); p(b); p(b) if p(b)", []string{"", "p(b)", ""}, []int{0, 2}},
		{"n(a, b); n(b, c); f(X, Y) if n(X, Y); f(X, Z) if f(X, Y) and f(Y, Z)", []string{"f(a, b); f(a, c); n(a, b)", "f(a, c); f(b, c); n(b, c)", "f(a, b); f(a, c); f(b, c)", "f(a, c)"}, nil},
	} {
		b := read(c.book).book()
		for i, want := range c.lost {
			if l, e := custom.Without(b, i); strings.Join(allTold(l), "; ") != want || e != api.OK {
				t.Errorf("Without(%q, %d): %q, error %d", c.book, i, allTold(l), e)
			}
		}
		if l, e := custom.Idle(b); !slices.Equal(l, c.idle) || e != api.OK {
			t.Errorf("Idle(%q): %v, error %d", c.book, l, e)
		}
	}
}

// P9.7: ErrArg for a clause that is none.
func TestWithoutErrors(t *testing.T) {
	for _, w := range []law{nil, read("p(a)"), read("p(a); q(X) if p(X)"), counting()} {
		for _, i := range append([]int{len(w), len(w) + 1}, farIndexes...) {
			if l, e := custom.Without(w.book(), i); len(l) != 0 || e != api.ErrArg {
				t.Errorf("%v: Without(%d): %v, error %d", w, i, l, e)
			}
		}
	}
}

// P9.11: Without of a clause that is the only one with its Pred as Head has all
// atoms of this Pred.
func TestOnlyClause(t *testing.T) {
	t.Parallel()
	for _, w := range slices.Concat(exampleLaws(), drawnLaws(300)) {
		b := w.book()
		all, _ := custom.All(b)
		for i, c := range b {
			heads := 0
			for _, other := range b {
				if other.Head.Pred == c.Head.Pred {
					heads++
				}
			}
			lost, e := custom.Without(b, i)
			if e != api.OK {
				t.Errorf("%v: Without(%d): error %d", w, i, e)
			}
			for _, a := range all {
				if heads == 1 && a.Pred == c.Head.Pred && !slices.ContainsFunc(lost, func(l api.Atom) bool { return sameAtom(l, a) }) {
					t.Errorf("%v: Without(%d) does not have %s", w, i, told(a))
				}
			}
		}
	}
}
