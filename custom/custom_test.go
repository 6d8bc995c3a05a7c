package custom_test

import (
	"slices"
	"strings"
	"testing"

	"sedge/api"
	"sedge/custom"
)

// P9.2: books that are as described, those at the limits among them.
func TestValid(t *testing.T) {
	each(t, slices.Concat(laws(), limitLaws()), func(w law) string {
		if !w.valid() {
			return "the test's own book is not valid"
		}
		if !custom.Valid(w.book()) {
			return "not valid"
		}
		return ""
	})
	for name, b := range map[string][]api.Clause{
		"no list":            nil,
		"an empty list":      {},
		"an empty Body":      {{Head: atom("p(a)"), Body: []api.Atom{}}},
		"words like Preds":   {{Head: atom("p(p, q)")}, {Head: atom("q(q)")}},
		"twenty the same":    slices.Repeat(read("p(a)").book(), 20),
		"eight words":        read("p(a, b); p(c, d); p(e, f); p(g, h); q(a) if p(b, h)").book(),
		"variables, no word": read("p(A, Z) if q(Z, M) and q(M, A)").book(),
		"all letters":        read("abcdefgh(ijklmnop, qrstuvwx); y(z); zzzzzzzz(A) if y(A)").book(),
		"almost words":       read("iff(i, an); ands(f, nd); fi(dna, ifif)").book(),
	} {
		if !custom.Valid(b) {
			t.Errorf("%s: not valid", name)
		}
	}
}

// P9.2: each letter is one of a word, and each upper-case letter is a variable.
func TestLetters(t *testing.T) {
	for low := 'a'; low <= 'z'; low++ {
		for _, word := range []string{string(low), "a" + string(low), string(low) + "z", strings.Repeat(string(low), 8)} {
			b := []api.Clause{{Head: api.Atom{Pred: word, Args: []string{word, "a"}}}}
			if !custom.Valid(b) {
				t.Errorf("the word %q: not valid", word)
			}
		}
	}
	for up := 'A'; up <= 'Z'; up++ {
		v := string(up)
		b := []api.Clause{{Head: api.Atom{Pred: "p", Args: []string{v}}, Body: []api.Atom{{Pred: "q", Args: []string{"a", v}}}}}
		if !custom.Valid(b) {
			t.Errorf("the variable %q: not valid", v)
		}
		b[0].Body[0].Args[1] = "a"
		if custom.Valid(b) {
			t.Errorf("the variable %q in the Head alone: valid", v)
		}
	}
}

// P9.2: all books of two small clauses, with Preds that have one Arg or two.
func TestValidSmall(t *testing.T) {
	var parts []string
	for _, x := range []string{"a", "X", "Y"} {
		parts = append(parts, "p("+x+")", "q("+x+")", "p("+x+", Y)", "p(X, "+x+")")
	}
	var texts []string
	for _, head := range parts {
		texts = append(texts, head)
		for _, one := range parts {
			texts = append(texts, head+" if "+one)
			for _, two := range parts {
				texts = append(texts, head+" if "+one+" and "+two)
			}
		}
	}
	for i, text := range texts {
		w := read(text)
		if is := custom.Valid(w.book()); is != w.valid() {
			t.Errorf("Valid(%v): %v", w, is)
		}
		w = slices.Concat(w, read(texts[i*31%len(texts)]))
		if is := custom.Valid(w.book()); is != w.valid() {
			t.Errorf("Valid(%v): %v", w, is)
		}
	}
}

// P9.2: up to twenty clauses, and up to eight words.
func TestValidCounts(t *testing.T) {
	for n := range 30 {
		b := slices.Repeat(read("p(X) if p(X)").book(), n)
		if is := custom.Valid(b); is != (n <= 20) {
			t.Errorf("Valid of %d clauses: %v", n, is)
		}
	}
	for n := range 12 {
		var w law
		for i := range n {
			arg := string(rune('a' + i))
			w = append(w, [][]string{{"p(" + arg + ")"}, {"p(X)", "p(X)", "p(" + arg + ")"}, {"p(" + arg + ")", "q(" + arg + ", X)"}, {"p(X)", "q(a, X)", "q(X, " + arg + ")"}}[i%4])
		}
		if is := custom.Valid(w.book()); is != (n <= 8) {
			t.Errorf("Valid of %d words: %v", n, is)
		}
	}
}

// P9.1, R2: ErrBook comes ahead of all others, and with nothing else.
func TestBookErrors(t *testing.T) {
	t.Parallel()
	for name, b := range badBooks() {
		if custom.Valid(b) {
			t.Errorf("%s: valid", name)
		}
		check := func(what string, zero bool, e api.Errno) {
			t.Helper()
			if !zero || e != api.ErrBook {
				t.Errorf("%s, %s: a result %v, error %d", what, name, !zero, e)
			}
		}
		text, e := custom.Format(b)
		check("Format", text == "", e)
		words, e := custom.Words(b)
		check("Words", len(words) == 0, e)
		all, e := custom.All(b)
		check("All", len(all) == 0, e)
		n, e := custom.Rounds(b)
		check("Rounds", n == 0, e)
		idle, e := custom.Idle(b)
		check("Idle", len(idle) == 0, e)
		for _, a := range []api.Atom{atom("p(a)"), atom("p(X)"), {}, {Pred: "p", Args: []string{"a", "b", "c"}}} {
			is, e := custom.Follows(b, a)
			check("Follows", !is, e)
			n, e := custom.Round(b, a)
			check("Round", n == 0, e)
			l, e := custom.Ask(b, a)
			check("Ask", len(l) == 0, e)
			steps, e := custom.Proof(b, a)
			check("Proof", len(steps) == 0, e)
			for _, l := range [][]api.Step{nil, {{Clause: 0, Atom: a}}, make([]api.Step, 2001)} {
				is, e := custom.IsProof(b, a, l)
				check("IsProof", !is, e)
			}
			for _, set := range [][]api.Atom{nil, {a}, make([]api.Atom, 1001)} {
				is, e := custom.Closed(b, set)
				check("Closed", !is, e)
			}
		}
		for _, i := range append([]int{0, 1}, farIndexes...) {
			l, e := custom.Without(b, i)
			check("Without", len(l) == 0, e)
		}
	}
}

// P9.1, R2: ErrAtom for what is no atom, and for variables where it must be plain.
func TestAtomErrors(t *testing.T) {
	t.Parallel()
	b := read("p(a); q(a, b); p(X) if q(X, Y)").book()
	bad := badAtoms()
	for _, book := range [][]api.Clause{nil, b} {
		for i, a := range slices.Concat(bad, atoms([]string{"p(X)", "p(Z)", "q(X, X)", "q(a, X)", "q(X, b)", "z(A)", "q(X)", "p(a, Z)"})) {
			check := func(what string, zero bool, e api.Errno) {
				t.Helper()
				if !zero || e != api.ErrAtom {
					t.Errorf("%s of %.80q: a result %v, error %d", what, told(a), !zero, e)
				}
			}
			if i < len(bad) {
				text, e := custom.Text(a)
				check("Text", text == "", e)
				l, e := custom.Ask(book, a)
				check("Ask", len(l) == 0, e)
			}
			is, e := custom.Follows(book, a)
			check("Follows", !is, e)
			n, e := custom.Round(book, a)
			check("Round", n == 0, e)
			steps, e := custom.Proof(book, a)
			check("Proof", len(steps) == 0, e)
			for _, l := range [][]api.Step{nil, {{Clause: 0, Atom: a}}, {{Clause: 0, Atom: atom("p(a)")}}, make([]api.Step, 2001)} {
				is, e := custom.IsProof(book, a, l)
				check("IsProof", !is, e)
			}
			for _, set := range [][]api.Atom{{a}, {atom("p(a)"), a}, {a, atom("p(a)")}, append(slices.Repeat(atoms([]string{"q(a, b)"}), 999), a)} {
				is, e := custom.Closed(book, set)
				check("Closed", !is, e)
			}
		}
	}
}

// P9.2: the words of each book.
func TestWords(t *testing.T) {
	each(t, slices.Concat(laws(), limitLaws()), func(w law) string {
		if l, e := custom.Words(w.book()); !slices.Equal(l, w.words()) || e != api.OK {
			return "Words: " + strings.Join(l, " ")
		}
		return ""
	})
	b := read("p(zz); p(b) if q(z, X) and q(X, a); q(ab, b)").book()
	if l, e := custom.Words(b); !slices.Equal(l, []string{"a", "ab", "b", "z", "zz"}) || e != api.OK {
		t.Errorf("Words: %q, error %d", l, e)
	}
}

// R4: arguments are neither changed nor kept, nor read beyond their length; the
// parts of a result share no memory.
func TestMemory(t *testing.T) {
	w := read("p(a); q(a, b); q(b, c); r(X, Z) if q(X, Y) and q(Y, Z); s(X) if p(X); r(c, a)")
	plain := w.book()
	b := cloned(append(slices.Clone(plain), api.Clause{}))[:len(plain)]
	goal := atom("r(a, c)")
	for range 2 {
		all, _ := custom.All(b)
		asked, _ := custom.Ask(b, atom("q(X, Y)"))
		lost, _ := custom.Without(b, 1)
		steps, _ := custom.Proof(b, goal)
		parsed, _ := custom.Parse(w.String())
		custom.IsProof(b, goal, steps)
		custom.Closed(b, all)
		custom.Idle(b)
		if len(all) != 6 || len(asked) != 2 || len(lost) != 2 || len(steps) != 3 || !sameBook(parsed, plain) || !sameBook(b, plain) {
			t.Fatalf("%v: %v, %v, %v, %v, %v", b, all, asked, lost, steps, parsed)
		}
		for _, s := range steps {
			all = append(all, s.Atom)
		}
		for _, c := range parsed {
			all = append(append(all, c.Head), c.Body...)
		}
		all = slices.Concat(all, asked, lost)
		want := allTold(all)
		for i, a := range all {
			clear(a.Args)
			clear(append(a.Args, "mine", "mine"))
			for k := i + 1; k < len(all); k++ {
				if told(all[k]) != want[k] {
					t.Errorf("%s and %s share memory", want[i], want[k])
				}
			}
		}
		if !sameBook(b, plain) || !sameAtom(goal, atom("r(a, c)")) {
			t.Fatalf("a book is changed: %v", b)
		}
	}
}

// R4: an atom in a list has no Args beyond its length.
func TestLength(t *testing.T) {
	args := []string{"a", "b", "c"}
	b := []api.Clause{{Head: api.Atom{Pred: "p", Args: args[:1]}, Body: atoms([]string{"p(a)", "p(X)", "p(Y)"})[:0]}}
	if text, e := custom.Format(b); text != "p(a)" || e != api.OK {
		t.Errorf("Format: %q, error %d", text, e)
	}
	if n, e := custom.Round(b, atom("p(a)")); n != 1 || e != api.OK {
		t.Errorf("Round: %d, error %d", n, e)
	}
	if !slices.Equal(args, []string{"a", "b", "c"}) {
		t.Errorf("Args are changed: %q", args)
	}
}
