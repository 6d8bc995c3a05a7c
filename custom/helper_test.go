package custom_test

import (
	"maps"
	"math"
	"math/rand/v2"
	"regexp"
	"slices"
	"strconv"
	"strings"
	"testing"

	"sedge/api"
)

// farIndexes are no index of a clause.
var farIndexes = []int{math.MinInt, math.MinInt + 1, -1 << 32, -1, api.MaxClauses, api.MaxClauses + 1, 1 << 32, math.MaxInt - 1, math.MaxInt}

// The words of the chapter as one expression each.
var (
	atomForm = regexp.MustCompile(`^([a-z]{1,8})\(([a-z]{1,8}|[A-Z])(?:, ([a-z]{1,8}|[A-Z]))?\)$`)
	keyword  = regexp.MustCompile(`\b(if|and)\b`)
	variable = regexp.MustCompile(`[A-Z]`)
	argument = regexp.MustCompile(`[a-z]+[,)]`)
	joint    = regexp.MustCompile(` if | and `)
)

// isAtomText says the words of the chapter about a text.
func isAtomText(text string) bool {
	return atomForm.MatchString(text) && !keyword.MatchString(text)
}

func isPlainText(text string) bool {
	return isAtomText(text) && !variable.MatchString(text)
}

// atom is the atom of a text that is one.
func atom(text string) api.Atom {
	parts := atomForm.FindStringSubmatch(text)
	if parts[3] == "" {
		return api.Atom{Pred: parts[1], Args: []string{parts[2]}}
	}
	return api.Atom{Pred: parts[1], Args: []string{parts[2], parts[3]}}
}

func atoms(texts []string) []api.Atom {
	var out []api.Atom
	for _, text := range texts {
		out = append(out, atom(text))
	}
	return out
}

// told is the text of an atom, also of what is none.
func told(a api.Atom) string {
	var text strings.Builder
	text.WriteString(a.Pred + "(")
	for i, arg := range a.Args {
		if i > 0 {
			text.WriteString(", ")
		}
		text.WriteString(arg)
	}
	return text.String() + ")"
}

func allTold(l []api.Atom) []string {
	var out []string
	for _, a := range l {
		out = append(out, told(a))
	}
	return out
}

// law is a book in texts: each clause is its atoms, the Head first.
type law [][]string

// read takes a text apart that is the text of a book.
func read(text string) law {
	var out law
	for _, clause := range strings.Split(text, "; ") {
		if clause != "" {
			out = append(out, joint.Split(clause, -1))
		}
	}
	return out
}

// book is the book of the package.
func (w law) book() []api.Clause {
	var out []api.Clause
	for _, clause := range w {
		out = append(out, api.Clause{Head: atom(clause[0]), Body: atoms(clause[1:])})
	}
	return out
}

func (w law) String() string {
	var out []string
	for _, clause := range w {
		text := clause[0]
		for i, a := range clause[1:] {
			text += []string{" if ", " and "}[i] + a
		}
		out = append(out, text)
	}
	return strings.Join(out, "; ")
}

// valid says the words of the chapter about a book whose atoms are atoms.
func (w law) valid() bool {
	counts := map[string]map[int]bool{}
	for _, clause := range w {
		for _, v := range variable.FindAllString(clause[0], -1) {
			if !strings.Contains(strings.Join(clause[1:], " "), v) {
				return false
			}
		}
		for _, a := range clause {
			pred := a[:strings.IndexByte(a, '(')]
			if counts[pred] == nil {
				counts[pred] = map[int]bool{}
			}
			counts[pred][strings.Count(a, ",")] = true
			if len(counts[pred]) > 1 {
				return false
			}
		}
	}
	return len(w) <= 20 && len(w.words()) <= 8
}

// words are the words that occur as Args, in order.
func (w law) words() []string {
	seen := map[string]bool{}
	for _, clause := range w {
		for _, a := range clause {
			for _, word := range argument.FindAllString(a, -1) {
				seen[word[:len(word)-1]] = true
			}
		}
	}
	return slices.Sorted(maps.Keys(seen))
}

// instance is an instance of a clause, in texts.
type instance struct {
	clause int
	head   string
	body   []string
}

// expand gives all texts in which variables are replaced by words.
func expand(text string, words []string) []string {
	v := variable.FindString(text)
	if v == "" {
		return []string{text}
	}
	var out []string
	for _, word := range words {
		out = append(out, expand(strings.ReplaceAll(text, v, word), words)...)
	}
	return out
}

// instances are all instances of all clauses.
func (w law) instances() []instance {
	var out []instance
	words := w.words()
	for i, clause := range w {
		for _, text := range expand(strings.Join(clause, "|"), words) {
			parts := strings.Split(text, "|")
			out = append(out, instance{i, parts[0], parts[1:]})
		}
	}
	return out
}

// holds reports whether a set has the whole Body.
func (n instance) holds(set map[string]bool) bool {
	for _, a := range n.body {
		if !set[a] {
			return false
		}
	}
	return true
}

// rounds goes from round to round, with all instances in each of them.
func rounds(l []instance) map[string]int {
	out, set := map[string]int{}, map[string]bool{}
	for round := 1; ; round++ {
		var heads []string
		for _, n := range l {
			if !set[n.head] && n.holds(set) {
				heads = append(heads, n.head)
			}
		}
		if len(heads) == 0 {
			return out
		}
		for _, head := range heads {
			out[head], set[head] = round, true
		}
	}
}

// without are the instances of all clauses but one.
func without(l []instance, clause int) []instance {
	return slices.DeleteFunc(slices.Clone(l), func(n instance) bool { return n.clause == clause })
}

// isProof says the words of the chapter.
func isProof(l []instance, goal string, steps []api.Step) bool {
	set := map[string]bool{}
	for _, s := range steps {
		text := told(s.Atom)
		if len(s.Atom.Args) != strings.Count(text, ",")+1 || !slices.ContainsFunc(l, func(n instance) bool {
			return n.clause == s.Clause && n.head == text && n.holds(set)
		}) {
			return false
		}
		set[text] = true
	}
	return len(steps) > 0 && told(steps[len(steps)-1].Atom) == goal
}

// isClosed says the words of the chapter.
func isClosed(l []instance, texts []string) bool {
	set := map[string]bool{}
	for _, text := range texts {
		set[text] = true
	}
	for _, n := range l {
		if n.holds(set) && !set[n.head] {
			return false
		}
	}
	return true
}

// universe are all plain atoms of the Preds of a book, with words of its own and
// one more.
func (w law) universe() []string {
	seen := map[string]bool{}
	words := append(w.words(), "zz")
	for _, clause := range w {
		for _, a := range clause {
			pred, rest, _ := strings.Cut(a, "(")
			text := pred + "(X)"
			if strings.Contains(rest, ",") {
				text = pred + "(X, Y)"
			}
			for _, plain := range expand(text, words) {
				seen[plain] = true
			}
		}
	}
	return slices.Sorted(maps.Keys(seen))
}

// some are as many of a list, drawn, or all of it.
func some(r *rand.Rand, l []string, count int) []string {
	out := slices.Clone(l)
	r.Shuffle(len(out), func(i, k int) { out[i], out[k] = out[k], out[i] })
	return out[:min(count, len(out))]
}

// smallClauses are all clauses with Preds, words and variables of two each.
func smallClauses() []string {
	args := []string{"a", "b", "X", "Y"}
	var parts []string
	for _, x := range args {
		parts = append(parts, "p("+x+")")
		for _, y := range args {
			parts = append(parts, "q("+x+", "+y+")")
		}
	}
	var out []string
	add := func(text string) {
		if read(text).valid() {
			out = append(out, text)
		}
	}
	for _, head := range parts {
		add(head)
		for _, one := range parts {
			add(head + " if " + one)
			for _, two := range parts {
				add(head + " if " + one + " and " + two)
			}
		}
	}
	return out
}

// smallLaws have one of all small clauses each, behind few facts or ahead of them.
func smallLaws() []law {
	facts := []string{"p(a)", "q(a, b)", "q(b, b)", "p(b); q(b, a)", "p(a); q(a, b)", "q(a, a); q(b, a)", "p(b); p(a)", "q(a, b); q(b, a); p(a)"}
	var out []law
	for i, clause := range smallClauses() {
		if i%2 == 0 {
			out = append(out, read(facts[i*7/3%len(facts)]+"; "+clause))
		} else {
			out = append(out, read(clause+"; "+facts[i*5/3%len(facts)]))
		}
	}
	return out
}

// drawnArg is a word or a variable, one of so many.
func drawnArg(r *rand.Rand, words, variables int) string {
	if variables > 0 && (words == 0 || r.IntN(5) > 0) {
		return string(rune('W' + r.IntN(variables)))
	}
	return []string{"a", "b", "ab", "ba", "abcdefgh", "zy", "x", "iffy"}[r.IntN(words)]
}

// drawnAtom has one of the first few Preds, which have one Arg or two.
func drawnAtom(r *rand.Rand, preds, words, variables int) string {
	k := r.IntN(preds)
	text := []string{"p", "next", "pp", "o", "a", "andy"}[k] + "(" + drawnArg(r, words, variables)
	if k != 0 && k != 3 {
		text += ", " + drawnArg(r, words, variables)
	}
	return text + ")"
}

// drawnLaw has so many clauses, about half of them facts of fewer Preds.
func drawnLaw(r *rand.Rand, clauses, preds, words, variables int) law {
	var out law
	for len(out) < clauses {
		var clause []string
		if len(out) < (clauses+1)/2 {
			clause = []string{drawnAtom(r, (preds+1)/2, words, 0)}
		} else {
			for range 2 + r.IntN(2) {
				clause = append(clause, drawnAtom(r, preds, words, variables))
			}
		}
		if (law{clause}).valid() {
			out = append(out, clause)
		}
	}
	r.Shuffle(len(out), func(i, k int) { out[i], out[k] = out[k], out[i] })
	return out
}

// linkedLaw has facts of one Pred, and rules without words, most of them with
// heads that other rules ask for.
func linkedLaw(r *rand.Rand, facts, rules, preds, words int) law {
	var out law
	for range facts {
		out = append(out, []string{"next(" + drawnArg(r, words, 0) + ", " + drawnArg(r, words, 0) + ")"})
	}
	for len(out) < facts+rules {
		var clause []string
		for range 2 + r.IntN(2) {
			clause = append(clause, drawnAtom(r, preds, 0, 3))
		}
		if (law{clause}).valid() && !slices.Contains(clause[1:], clause[0]) {
			out = append(out, clause)
		}
	}
	r.Shuffle(len(out), func(i, k int) { out[i], out[k] = out[k], out[i] })
	return out
}

// drawnLaws are drawn: few clauses or many, with few words or all.
func drawnLaws(count int) []law {
	r := rand.New(rand.NewPCG(uint64(count), 9))
	var out []law
	for i := range count {
		words, variables := 1+r.IntN(4), r.IntN(4)
		if r.IntN(20) == 0 {
			words = 8
		}
		if r.IntN(10) == 0 {
			variables = 4
		}
		if i%2 == 0 {
			out = append(out, drawnLaw(r, 1+r.IntN(20), 1+r.IntN(6), words, variables))
		} else {
			out = append(out, linkedLaw(r, 1+r.IntN(8), 1+r.IntN(12), 2+r.IntN(5), words))
		}
	}
	return out
}

// exampleLaws are those of the chapter, and others that are looked at by hand.
func exampleLaws() []law {
	var out []law
	for _, text := range []string{
		"",
		"house(ann); hearth(ann); house(bob); right(X) if house(X) and hearth(X)",
		"next(a, b); next(b, c); far(X, Y) if next(X, Y); far(X, Z) if far(X, Y) and far(Y, Z)",
		"p(X) if p(X)",
		"p(a)",
		"p(p); p(X) if p(X); q(X, X) if p(X)",
		"p(a) if q(b); q(b) if r(c); r(c)",
		"p(a) if p(b); p(b) if p(a)",
		"p(a); p(a); p(b) if p(a); p(b) if p(a) and p(a); p(c) if p(X) and p(b)",
		"p(a, b); q(X, Y) if p(Y, X); r(X) if q(X, X); s(X) if q(X, Y)",
		"p(a); p(b); q(X, Y) if p(X) and p(Y); r(X, Z) if q(X, Y) and q(Y, Z)",
		"p(a); q(c) if p(X); p(b) if q(X); q(X) if p(X)",
		"b(d, e); b(c, d); b(b, c); b(a, b); f(X, Y) if b(X, Y); f(X, Z) if b(X, Y) and f(Y, Z)",
		"p(a); pa(a); p(b); pa(b); o(a); pz(a, b); pz(ab, b); pz(a, ab); pz(aa, a)",
	} {
		out = append(out, read(text))
	}
	return out
}

// counting has words that count, place by place, so that one atom follows in each
// of many rounds.
func counting() law {
	text := "n(a, b); n(b, c); n(c, d); n(d, e); n(e, f); n(f, g); n(g, h); k(a, a)"
	for i := range 4 {
		k, more := strings.Repeat("k", i+1), strings.Repeat("k", i+2)
		text += "; " + k + "(X, Z) if " + k + "(X, Y) and n(Y, Z)"
		text += "; " + k + "(Y, a) if " + k + "(X, h) and n(X, Y)"
		text += "; " + more + "(a, a) if " + k + "(h, h)"
	}
	return read(text)
}

// crowded lets all atoms of all Preds follow, by clauses of four variables.
func crowded() law {
	text := "n(a, b); n(c, d); n(e, f); n(g, h); s(X) if n(X, Y); s(Y) if n(X, Y); p(X, Y) if s(X) and s(Y)"
	for i := range 13 {
		text += "; h" + string(rune('a'+i)) + "(A, D) if p(A, B) and p(C, D)"
	}
	return read(text)
}

// limitLaws are those at the limits.
func limitLaws() []law {
	var long, many law
	for i := range 20 {
		long = append(long, []string{"predpred(A, B)", "predpred(A, Z)", "predpred(Z, B)"})
		many = append(many, []string{strings.Repeat("p", i%8+1) + "(" + strings.Repeat("w", i%8+1) + ")"})
	}
	long[3], long[19] = []string{"predpred(abcdefgh, zyxwvuts)"}, []string{"predpred(zyxwvuts, abcdefgh)"}
	return []law{long, many, counting(), crowded()}
}

// laws are all of these.
func laws() []law {
	return slices.Concat(exampleLaws(), smallLaws(), drawnLaws(400))
}

// badAtoms are no atoms, each for a reason of its own.
func badAtoms() []api.Atom {
	out := []api.Atom{
		{}, {Pred: "p"}, {Pred: "p", Args: []string{}}, {Args: []string{"a"}}, {Pred: "p", Args: []string{"a", "b", "c"}}, {Pred: "p", Args: make([]string, 100000)},
		{Pred: "p", Args: []string{"a", "b", ""}}, {Pred: "p", Args: []string{"a, b"}}, {Pred: "p", Args: []string{"a", "b, c"}}, {Pred: "p(a)", Args: nil}, {Pred: "p(a), q", Args: []string{"a"}}, {Pred: "p(a", Args: []string{"b"}}, {Pred: "q(b) if p", Args: []string{"a"}},
	}
	for _, text := range badWords() {
		out = append(out, api.Atom{Pred: text, Args: []string{"a"}}, api.Atom{Pred: text, Args: []string{"a", "X"}})
		if len(text) != 1 || text < "A" || text > "Z" {
			out = append(out, api.Atom{Pred: "p", Args: []string{text}}, api.Atom{Pred: "p", Args: []string{"a", text}}, api.Atom{Pred: "p", Args: []string{text, "X"}})
		}
	}
	return out
}

// badWords are no words; those of one upper-case letter are variables.
func badWords() []string {
	out := []string{"", "if", "and", "abcdefghi", strings.Repeat("a", 256), strings.Repeat("a", 1<<20), "X", "A", "Z", "XY", "aX", "Xa", "Ab", "abcdefgH", "a b", " a", "a ", "a\n", "\na", "a\x00", "\x00", "a1", "1", "0", "a_b", "_", "a-b", "a.b", "a,", "a;", "(", ")", "a)", "é", "aé", "éa", "ß", "ａ", "a\xff", "\xff", "\xc3", "λ", "Λ", "É"}
	for b := range 256 {
		if s := string([]byte{byte(b)}); s < "a" || s > "z" {
			out = append(out, s, "a"+s, s+"a", "a"+s+"a")
		}
	}
	return out
}

// badBooks are not as described, each for a reason of its own.
func badBooks() map[string][]api.Clause {
	out := map[string][]api.Clause{
		"an empty clause":       {{}},
		"a clause without Head": {{Body: atoms([]string{"p(a)"})}},
		"three in a Body":       {{Head: atom("p(a)"), Body: atoms([]string{"p(a)", "p(a)", "p(a)"})}},
		"a long Body":           {{Head: atom("p(a)"), Body: make([]api.Atom, 100000)}},
		"clauses of nothing":    make([]api.Clause, 100000),
	}
	for _, text := range []string{
		"p(X)", "p(X) if p(Y)", "p(a); q(X, Y) if p(X)", "p(a); q(X, Y) if p(Y)", "q(Y, X) if q(X, X)", "q(X, a)", "q(a, X)", "p(X) if q(a, b) and q(b, Y)",
		"p(a); p(a, b)", "p(a, b); p(a)", "p(a) if p(a, b)", "p(a) if q(a) and q(a, b)", "p(a) if q(a, b) and q(a)", "p(a); q(b) if r(a) and p(a, a)", "q(a); p(b, a) if q(a); r(a) if p(b)", "p(a) if q(a); q(a, a)", "p(X) if q(X) and p(X, X)",
		"p(a); p(b); p(c); p(d); p(e); p(f); p(g); p(h); p(i)", "q(a, b); q(c, d); q(e, f); q(g, h); q(i, a)", "p(a) if q(b, c) and q(d, e); r(f) if q(g, h) and q(a, i)",
		strings.TrimSuffix(strings.Repeat("p(a); ", 21), "; "), strings.TrimSuffix(strings.Repeat("p(a) if p(a); ", 21), "; "),
	} {
		out[text] = read(text).book()
	}
	for i, a := range badAtoms() {
		name := strconv.Itoa(i) + " of the bad atoms"
		out[name+" as Head"] = []api.Clause{{Head: atom("p(a)")}, {Head: a}}
		out[name+" as Head with a Body"] = []api.Clause{{Head: a, Body: atoms([]string{"p(X)"})}}
		out[name+" in a Body"] = []api.Clause{{Head: atom("p(a)"), Body: []api.Atom{a}}}
		out[name+" behind another one"] = []api.Clause{{Head: atom("p(a)"), Body: []api.Atom{atom("p(X)"), a}}, {Head: atom("p(a)")}}
	}
	return out
}

// sameTexts holds atoms against their texts.
func sameTexts(l []api.Atom, texts []string) bool {
	for _, a := range l {
		if !isAtomText(told(a)) || len(a.Args) != strings.Count(told(a), ",")+1 {
			return false
		}
	}
	return slices.Equal(allTold(l), texts)
}

// sameBook holds books against each other, clause by clause.
func sameBook(a, b []api.Clause) bool {
	return slices.EqualFunc(a, b, func(x, y api.Clause) bool {
		return sameAtom(x.Head, y.Head) && slices.EqualFunc(x.Body, y.Body, sameAtom)
	})
}

func sameAtom(a, b api.Atom) bool {
	return a.Pred == b.Pred && slices.Equal(a.Args, b.Args)
}

// cloned is a book with memory of its own.
func cloned(b []api.Clause) []api.Clause {
	var out []api.Clause
	for _, c := range b {
		var body []api.Atom
		for _, a := range c.Body {
			body = append(body, api.Atom{Pred: a.Pred, Args: slices.Clone(a.Args)})
		}
		out = append(out, api.Clause{Head: api.Atom{Pred: c.Head.Pred, Args: slices.Clone(c.Head.Args)}, Body: body})
	}
	return out
}

// each runs a check on each law, and names it if it fails.
func each(t *testing.T, l []law, check func(w law) string) {
	t.Helper()
	for _, w := range l {
		if said := check(w); said != "" {
			t.Errorf("%v: %s", w, said)
		}
	}
}
