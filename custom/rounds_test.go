package custom_test

import (
	"fmt"
	"maps"
	"math/rand/v2"
	"slices"
	"testing"

	"sedge/api"
	"sedge/custom"
)

// checkFollows holds all that follows against the rounds of all instances, and
// asks for each atom of a list.
func checkFollows(w law, list []string) string {
	b := w.book()
	want := rounds(w.instances())
	l, e := custom.All(b)
	if !sameTexts(l, slices.Sorted(maps.Keys(want))) || e != api.OK {
		return fmt.Sprintf("All: %q, error %d", allTold(l), e)
	}
	greatest := 0
	for _, n := range want {
		greatest = max(greatest, n)
	}
	if n, e := custom.Rounds(b); n != greatest || e != api.OK {
		return fmt.Sprintf("Rounds: %d, error %d, want %d", n, e, greatest)
	}
	for _, text := range list {
		round, follows := want[text]
		if is, e := custom.Follows(b, atom(text)); is != follows || e != api.OK {
			return fmt.Sprintf("Follows %s: %v, error %d", text, is, e)
		}
		n, e := custom.Round(b, atom(text))
		if follows && (n != round || e != api.OK) || !follows && (n != 0 || e != api.ErrNone) {
			return fmt.Sprintf("Round of %s: %d, error %d, want %d", text, n, e, round)
		}
	}
	return ""
}

// P9.3, P9.9: what follows, and in which rounds.
func TestFollows(t *testing.T) {
	t.Parallel()
	r := rand.New(rand.NewPCG(9, 3))
	each(t, slices.Concat(exampleLaws(), drawnLaws(400)), func(w law) string {
		return checkFollows(w, slices.Concat(some(r, w.universe(), 40), []string{"other(a)", "other(a, b)", "p(a)", "p(a, a)", "p(a, b)"}))
	})
	each(t, smallLaws(), func(w law) string {
		return checkFollows(w, []string{"p(a)", "p(b)", "q(a, a)", "q(a, b)", "q(b, a)", "q(b, b)"})
	})
	each(t, limitLaws(), func(w law) string {
		return checkFollows(w, []string{"hm(a, h)", "hm(h, h)", "kkkkk(a, a)", "kkkk(h, h)", "k(h, h)", "predpred(abcdefgh, abcdefgh)", "p(w)", "p(a)"})
	})
}

// P9.3: rounds that are counted by hand.
func TestRounds(t *testing.T) {
	for _, c := range []struct {
		book   string
		rounds map[string]int
	}{
		{"", nil},
		{"p(X) if p(X)", nil},
		{"p(a) if p(a)", nil},
		{"p(a) if p(b); p(b) if p(a)", nil},
		{"p(a)", map[string]int{"p(a)": 1}},
		{"p(a) if p(a); p(a)", map[string]int{"p(a)": 1}},
		{"q(X) if p(X); p(a)", map[string]int{"p(a)": 1, "q(a)": 2}},
		{"r(X) if q(X); q(X) if p(X); p(a); r(X) if p(X)", map[string]int{"p(a)": 1, "q(a)": 2, "r(a)": 2}},
		{"s(X) if r(X) and p(X); r(X) if q(X); q(X) if p(X); p(a)", map[string]int{"p(a)": 1, "q(a)": 2, "r(a)": 3, "s(a)": 4}},
		{"s(X) if p(X) and r(X); r(X) if q(X); q(X) if p(X); p(a)", map[string]int{"p(a)": 1, "q(a)": 2, "r(a)": 3, "s(a)": 4}},
		{"p(a); q(b) if p(X); q(c) if p(d)", map[string]int{"p(a)": 1, "q(b)": 2}},
		{"n(a, b); n(b, c); n(c, d); n(d, e); n(e, f); f(X, Y) if n(X, Y); f(X, Z) if f(X, Y) and f(Y, Z)", map[string]int{"n(a, b)": 1, "n(b, c)": 1, "n(c, d)": 1, "n(d, e)": 1, "n(e, f)": 1, "f(a, b)": 2, "f(b, c)": 2, "f(c, d)": 2, "f(d, e)": 2, "f(e, f)": 2, "f(a, c)": 3, "f(b, d)": 3, "f(c, e)": 3, "f(d, f)": 3, "f(a, d)": 4, "f(b, e)": 4, "f(c, f)": 4, "f(a, e)": 4, "f(b, f)": 4, "f(a, f)": 5}},
	} {
		b := read(c.book).book()
		l, e := custom.All(b)
		if !sameTexts(l, slices.Sorted(maps.Keys(c.rounds))) || e != api.OK {
			t.Errorf("All of %s: %q, error %d", c.book, allTold(l), e)
		}
		most := 0
		for text, want := range c.rounds {
			if n, e := custom.Round(b, atom(text)); n != want || e != api.OK {
				t.Errorf("Round of %s in %s: %d, error %d, want %d", text, c.book, n, e, want)
			}
			most = max(most, want)
		}
		if n, e := custom.Rounds(b); n != most || e != api.OK {
			t.Errorf("Rounds of %s: %d, error %d, want %d", c.book, n, e, most)
		}
	}
	if n, e := custom.Rounds(counting().book()); n != 257 || e != api.OK {
		t.Errorf("Rounds of words that count: %d, error %d", n, e)
	}
}

// P9.3, P9.4: the order of atoms whose Preds and Args begin with each other.
func TestOrder(t *testing.T) {
	b := read("pa(b); p(zz); p(b); pa(a); q(b, a); q(b, aa); q(ba, a); qq(a); q(bb, a); o(z)").book()
	if l, e := custom.All(b); !sameTexts(l, []string{"o(z)", "p(b)", "p(zz)", "pa(a)", "pa(b)", "q(b, a)", "q(b, aa)", "q(ba, a)", "q(bb, a)", "qq(a)"}) || e != api.OK {
		t.Errorf("All: %q, error %d", allTold(l), e)
	}
	if l, e := custom.Ask(b, atom("q(X, a)")); !sameTexts(l, []string{"q(b, a)", "q(ba, a)", "q(bb, a)"}) || e != api.OK {
		t.Errorf("Ask: %q, error %d", allTold(l), e)
	}
	if l, e := custom.Ask(b, atom("q(X, Y)")); !sameTexts(l, []string{"q(b, a)", "q(b, aa)", "q(ba, a)", "q(bb, a)"}) || e != api.OK {
		t.Errorf("Ask: %q, error %d", allTold(l), e)
	}
}

// checkAsk holds an answer against all atoms that one becomes.
func checkAsk(w law, follows map[string]int, text string) string {
	var want []string
	for _, a := range expand(text, append(w.words(), "zz")) {
		if follows[a] > 0 {
			want = append(want, a)
		}
	}
	slices.Sort(want)
	if l, e := custom.Ask(w.book(), atom(text)); !sameTexts(l, want) || e != api.OK {
		return fmt.Sprintf("Ask of %s: %q, error %d, want %q", text, allTold(l), e, want)
	}
	return ""
}

// P9.4, P9.10: what an atom becomes, and a plain one, which stays as it is.
func TestAsk(t *testing.T) {
	t.Parallel()
	r := rand.New(rand.NewPCG(9, 4))
	for _, w := range slices.Concat(exampleLaws(), drawnLaws(300), limitLaws()[:3]) {
		follows := rounds(w.instances())
		list := []string{"other(X)", "p(X, Y)", "p(X)", "p(A)", "p(a)", "q(X, Y)", "q(Y, X)", "q(X, X)", "pp(X, Y)", "pp(Z, Z)", "next(Y, X)", "next(X, X)", "andy(X, Y)", "q(X)"}
		for _, text := range w.universe() {
			list = append(list, text)
			// One Arg or the other becomes a variable, the same one or another.
			a := atom(text)
			for i := range a.Args {
				if r.IntN(2) == 0 {
					a.Args[i] = string(rune('X' + r.IntN(2)))
				}
			}
			list = append(list, told(a))
		}
		for _, text := range some(r, list, 50) {
			if said := checkAsk(w, follows, text); said != "" {
				t.Errorf("%v: %s", w, said)
			}
		}
	}
}

// P9.4: all questions of two books.
func TestAskSmall(t *testing.T) {
	for _, text := range []string{"q(a, a); q(a, b); q(b, c); p(a); p(c)", "q(a, b); p(b); q(X, Y) if q(Y, X); q(X, Z) if q(X, Y) and q(Y, Z); p(X) if q(X, c)"} {
		w := read(text)
		follows := rounds(w.instances())
		for _, x := range []string{"a", "b", "c", "d", "X", "Y", "A"} {
			for _, ask := range []string{"p(" + x + ")", "q(" + x + ")", "r(" + x + ")"} {
				if said := checkAsk(w, follows, ask); said != "" {
					t.Errorf("%v: %s", w, said)
				}
			}
			for _, y := range []string{"a", "b", "c", "d", "X", "Y", "B"} {
				for _, ask := range []string{"p(" + x + ", " + y + ")", "q(" + x + ", " + y + ")"} {
					if said := checkAsk(w, follows, ask); said != "" {
						t.Errorf("%v: %s", w, said)
					}
				}
			}
		}
	}
}

// P9.10: one more clause at the end, with the words of the book, takes no atom away
// and makes no round greater; the order of the clauses plays no part.
func TestMore(t *testing.T) {
	t.Parallel()
	r := rand.New(rand.NewPCG(9, 10))
	for _, w := range drawnLaws(300) {
		b := w.book()
		l, _ := custom.All(b)
		mixed := slices.Clone(b)
		r.Shuffle(len(mixed), func(i, k int) { mixed[i], mixed[k] = mixed[k], mixed[i] })
		more := slices.Concat(b, drawnLaw(r, 1, 6, 3, 2).book())
		before, _ := custom.Words(b)
		after, _ := custom.Words(more)
		if again, e := custom.All(mixed); !slices.EqualFunc(again, l, sameAtom) || e != api.OK {
			t.Errorf("%v in another order: %q, error %d", w, allTold(again), e)
		}
		fits := custom.Valid(more) && len(before) == len(after)
		for _, a := range l {
			was, _ := custom.Round(b, a)
			if n, e := custom.Round(mixed, a); n != was || e != api.OK {
				t.Errorf("%v in another order: round %d of %v, error %d", w, n, a, e)
			}
			if n, e := custom.Round(more, a); fits && (n > was || e != api.OK) {
				t.Errorf("%v and one more clause: round %d of %v, error %d", w, n, a, e)
			}
		}
	}
}
