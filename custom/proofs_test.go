package custom_test

import (
	"fmt"
	"maps"
	"math/rand/v2"
	"slices"
	"testing"

	"sedge/api"
	"sedge/custom"
)

// checkProof looks at the proof of an atom.
func checkProof(w law, l []instance, follows map[string]int, text string) string {
	b, a := w.book(), atom(text)
	steps, e := custom.Proof(b, a)
	if follows[text] == 0 {
		if len(steps) != 0 || e != api.ErrNone {
			return fmt.Sprintf("Proof of %s: %v, error %d", text, steps, e)
		}
		return ""
	}
	seen := map[string]bool{}
	for _, s := range steps {
		seen[told(s.Atom)] = true
	}
	if !isProof(l, text, steps) || len(seen) < len(steps) || e != api.OK {
		return fmt.Sprintf("Proof of %s: %v, error %d", text, steps, e)
	}
	if is, e := custom.IsProof(b, a, steps); !is || e != api.OK {
		return fmt.Sprintf("IsProof of %s, %v: %v, error %d", text, steps, is, e)
	}
	for range 2 {
		again, e := custom.Proof(b, a)
		if !slices.EqualFunc(again, steps, sameStep) || e != api.OK {
			return fmt.Sprintf("Proof of %s: %v, then %v, error %d", text, steps, again, e)
		}
	}
	return ""
}

func sameStep(a, b api.Step) bool {
	return a.Clause == b.Clause && sameAtom(a.Atom, b.Atom)
}

// P9.5, P9.9: what follows has a proof, and nothing else has.
func TestProof(t *testing.T) {
	t.Parallel()
	r := rand.New(rand.NewPCG(9, 55))
	for _, w := range slices.Concat(exampleLaws(), drawnLaws(250)) {
		l := w.instances()
		follows := rounds(l)
		all := slices.Sorted(maps.Keys(follows))
		for _, text := range slices.Concat(some(r, all, 20), some(r, w.universe(), 10), []string{"other(a)", "p(a, a)", "p(a)"}) {
			if said := checkProof(w, l, follows, text); said != "" {
				t.Errorf("%v: %s", w, said)
			}
		}
	}
	each(t, smallLaws(), func(w law) string {
		l := w.instances()
		follows := rounds(l)
		for _, text := range []string{"p(a)", "p(b)", "q(a, b)", "q(b, b)"} {
			if said := checkProof(w, l, follows, text); said != "" {
				return said
			}
		}
		return ""
	})
	each(t, limitLaws(), func(w law) string {
		l := w.instances()
		follows := rounds(l)
		for _, text := range []string{"hm(a, h)", "p(h, a)", "kkkkk(a, a)", "kk(d, e)", "predpred(abcdefgh, abcdefgh)", "p(w)", "p(a)"} {
			if said := checkProof(w, l, follows, text); said != "" {
				return said
			}
		}
		return ""
	})
}

// checkIsProof looks at IsProof of a list.
func checkIsProof(t *testing.T, w law, l []instance, goal string, steps []api.Step) {
	t.Helper()
	want := isProof(l, goal, steps)
	if is, e := custom.IsProof(w.book(), atom(goal), steps); is != want || e != api.OK {
		t.Errorf("%v: IsProof of %s, %v: %v, error %d", w, goal, steps, is, e)
	}
}

// P9.5: all lists of few steps.
func TestIsProofSmall(t *testing.T) {
	for _, text := range []string{"p(a); q(X) if p(X)", "p(a); p(b) if p(a)", "p(a); q(b, X) if p(X) and p(a)", "q(a, b); q(X, Y) if q(Y, X)", "p(a) if p(a); p(a)", "p(X) if p(X); q(b, a)"} {
		w := read(text)
		l := w.instances()
		goals := w.universe()
		var each []api.Step
		for clause := -1; clause <= len(w); clause++ {
			for _, a := range goals {
				if len(goals) < 8 || a != "p(zz)" {
					each = append(each, api.Step{Clause: clause, Atom: atom(a)})
				}
			}
		}
		var walk func(steps []api.Step, left int)
		walk = func(steps []api.Step, left int) {
			goal := goals[len(steps)%len(goals)]
			if len(steps) > 0 {
				checkIsProof(t, w, l, told(steps[len(steps)-1].Atom), steps)
			}
			checkIsProof(t, w, l, goal, steps)
			if left > 0 {
				for _, s := range each {
					walk(append(slices.Clone(steps), s), left-1)
				}
			}
		}
		walk(nil, 2)
		// A third step goes on only from what is a proof so far.
		for _, one := range each {
			for _, two := range each {
				for _, three := range each {
					if isProof(l, told(two.Atom), []api.Step{one, two}) {
						checkIsProof(t, w, l, told(three.Atom), []api.Step{one, two, three})
					}
				}
			}
		}
	}
}

// changed returns a proof with a change or two.
func changed(r *rand.Rand, w law, steps []api.Step, goals []string) []api.Step {
	out := slices.Clone(steps)
	for range 1 + r.IntN(2) {
		if len(out) == 0 {
			return out
		}
		i, k := r.IntN(len(out)), r.IntN(len(out))
		switch r.IntN(7) {
		case 0:
			out[i], out[k] = out[k], out[i]
		case 1:
			out = slices.Delete(out, i, i+1)
		case 2:
			out = slices.Insert(out, i, out[k])
		case 3:
			out[i].Clause = r.IntN(len(w)+2) - 1
		case 4:
			out[i].Atom = atom(goals[r.IntN(len(goals))])
		case 5:
			out = slices.Insert(out, i, api.Step{Clause: r.IntN(len(w)), Atom: atom(goals[r.IntN(len(goals))])})
		default:
			a := api.Atom{Pred: out[i].Atom.Pred, Args: slices.Clone(out[i].Atom.Args)}
			slices.Reverse(a.Args)
			out[i].Atom = a
		}
	}
	return out
}

// P9.5, P9.9: proofs that are changed; what any of them proves follows.
func TestChangedProofs(t *testing.T) {
	t.Parallel()
	r := rand.New(rand.NewPCG(9, 5))
	kept := 0
	for _, w := range slices.Concat(exampleLaws(), drawnLaws(400)) {
		l, goals := w.instances(), w.universe()
		follows := rounds(l)
		for goal := range follows {
			steps, _ := custom.Proof(w.book(), atom(goal))
			for range 5 {
				more := changed(r, w, steps, goals)
				checkIsProof(t, w, l, goal, more)
				if len(more) > 0 {
					last := told(more[len(more)-1].Atom)
					checkIsProof(t, w, l, last, more)
					if isProof(l, last, more) {
						kept++
						if follows[last] == 0 {
							t.Errorf("%v: a proof of %s", w, last)
						}
					}
				}
			}
		}
	}
	if kept < 1000 {
		t.Errorf("only %d changed proofs are proofs", kept)
	}
}

// P9.5: lists that are looked at by hand.
func TestIsProof(t *testing.T) {
	b := read("n(a, b); n(b, c); f(X, Y) if n(X, Y); f(X, Z) if f(X, Y) and f(Y, Z); g(X, X) if f(X, c); n(a, b)").book()
	step := func(clause int, text string) api.Step { return api.Step{Clause: clause, Atom: atom(text)} }
	proof := []api.Step{step(0, "n(a, b)"), step(1, "n(b, c)"), step(2, "f(b, c)"), step(2, "f(a, b)"), step(3, "f(a, c)"), step(4, "g(a, a)")}
	replaced := func(i int, s api.Step) []api.Step {
		out := slices.Clone(proof)
		out[i] = s
		return out
	}
	for _, c := range []struct {
		name, goal string
		l          []api.Step
		want       bool
	}{
		{"a proof", "g(a, a)", proof, true},
		{"another atom", "g(b, b)", proof, false},
		{"an atom of a step", "f(a, c)", proof, false},
		{"up to an atom", "f(a, c)", proof[:5], true},
		{"an atom of no Pred", "h(a, a)", proof, false},
		{"an atom of one Arg", "g(a)", proof, false},
		{"nothing", "n(a, b)", nil, false},
		{"one step", "n(a, b)", proof[:1], true},
		{"a clause again", "g(a, a)", replaced(0, step(5, "n(a, b)")), true},
		{"a clause of another atom", "g(a, a)", replaced(0, step(1, "n(a, b)")), false},
		{"no clause", "g(a, a)", replaced(0, step(6, "n(a, b)")), false},
		{"a clause below 0", "g(a, a)", replaced(0, step(-1, "n(a, b)")), false},
		{"a variable", "g(a, a)", replaced(2, step(2, "f(b, X)")), false},
		{"the Head as it is", "g(a, a)", replaced(2, step(2, "f(X, Y)")), false},
		{"an atom ahead of its Body", "f(a, b)", []api.Step{step(2, "f(a, b)"), step(0, "n(a, b)"), step(2, "f(a, b)")}, false},
		{"an atom by itself", "f(a, b)", []api.Step{step(0, "n(a, b)"), step(3, "f(a, b)")}, false},
		{"a step that is not needed", "n(a, b)", []api.Step{step(1, "n(b, c)"), step(0, "n(a, b)")}, true},
		{"a step again", "n(a, b)", []api.Step{step(0, "n(a, b)"), step(5, "n(a, b)"), step(0, "n(a, b)")}, true},
		{"other words in a fact", "n(a, c)", []api.Step{step(0, "n(a, c)")}, false},
		{"other words for one variable", "g(a, b)", append(slices.Clone(proof[:5]), step(4, "g(a, b)")), false},
	} {
		if is, e := custom.IsProof(b, atom(c.goal), c.l); is != c.want || e != api.OK {
			t.Errorf("%s: %v, error %d", c.name, is, e)
		}
	}
	for i := range proof {
		for _, a := range badAtoms()[:60] {
			if is, e := custom.IsProof(b, atom("g(a, a)"), replaced(i, api.Step{Clause: proof[i].Clause, Atom: a})); is || e != api.OK {
				t.Errorf("a step with %.80q: %v, error %d", told(a), is, e)
			}
			if is, e := custom.IsProof(b, atom("g(a, a)"), slices.Insert(slices.Clone(proof), i, api.Step{Clause: 0, Atom: a})); is || e != api.OK {
				t.Errorf("one more step with %.80q: %v, error %d", told(a), is, e)
			}
		}
		for _, clause := range farIndexes {
			if is, e := custom.IsProof(b, atom("g(a, a)"), replaced(i, api.Step{Clause: clause, Atom: proof[i].Atom})); is || e != api.OK {
				t.Errorf("a step with the clause %d: %v, error %d", clause, is, e)
			}
		}
	}
}

// P9.5: Args whose texts alone are those of an atom.
func TestIsProofOfTexts(t *testing.T) {
	b := read("n(a, b); m(b); f(X) if n(X, b)").book()
	for _, steps := range [][]api.Step{
		{{Clause: 0, Atom: api.Atom{Pred: "n", Args: []string{"a, b"}}}},
		{{Clause: 0, Atom: api.Atom{Pred: "n(a, b", Args: nil}}, {Clause: 0, Atom: atom("n(a, b)")}},
		{{Clause: 0, Atom: atom("n(a, b)")}, {Clause: 2, Atom: api.Atom{Pred: "f", Args: []string{"a", ""}}}},
		{{Clause: 1, Atom: api.Atom{Pred: "m", Args: []string{"b", "b"}}}},
		{{Clause: 1, Atom: api.Atom{Pred: "m"}}},
	} {
		for _, goal := range []string{"n(a, b)", "m(b)", "f(a)", "m(b, b)"} {
			if is, e := custom.IsProof(b, atom(goal), steps); is || e != api.OK {
				t.Errorf("IsProof(%s, %v): %v, error %d", goal, steps, is, e)
			}
		}
	}
}

// P9.5: up to 2000 steps.
func TestLongProofs(t *testing.T) {
	for _, w := range []law{read("p(a); q(X) if p(X)"), counting(), crowded()} {
		b := w.book()
		all, _ := custom.All(b)
		goal := all[len(all)-1]
		steps, _ := custom.Proof(b, goal)
		for _, count := range []int{1999, 2000, 2001, 2002, 5000} {
			long := append(slices.Repeat(steps[:1], count-len(steps)), steps...)
			if is, e := custom.IsProof(b, goal, long); is != (count <= 2000) || e != api.OK {
				t.Errorf("IsProof of %d steps: %v, error %d", count, is, e)
			}
			long[count-1].Clause = len(b)
			if is, e := custom.IsProof(b, goal, long); is || e != api.OK {
				t.Errorf("IsProof of %d steps, the last one of no clause: %v, error %d", count, is, e)
			}
		}
	}
	if is, e := custom.IsProof(nil, atom("p(a)"), make([]api.Step, 1<<20)); is || e != api.OK {
		t.Errorf("IsProof of very many steps: %v, error %d", is, e)
	}
}
