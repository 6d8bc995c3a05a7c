package custom_test

import (
	"math/rand/v2"
	"slices"
	"strings"
	"testing"

	"sedge/api"
	"sedge/custom"
)

// P9.2, P9.8: the text of each book, and the book of each text.
func TestTexts(t *testing.T) {
	each(t, slices.Concat(laws(), limitLaws()), func(w law) string {
		text, e := custom.Format(w.book())
		if text != w.String() || e != api.OK {
			return "Format: " + text
		}
		if b, e := custom.Parse(text); !sameBook(b, w.book()) || e != api.OK {
			return "Parse: not the same"
		}
		return ""
	})
	b, e := custom.Parse("right(X) if house(X, ann) and hearth(ann); house(bob, ann)")
	if e != api.OK || len(b) != 2 || len(b[0].Body) != 2 || b[0].Head.Pred != "right" || !slices.Equal(b[0].Head.Args, []string{"X"}) || b[0].Body[0].Pred != "house" || !slices.Equal(b[0].Body[0].Args, []string{"X", "ann"}) || b[0].Body[1].Pred != "hearth" || !slices.Equal(b[0].Body[1].Args, []string{"ann"}) || b[1].Head.Pred != "house" || !slices.Equal(b[1].Head.Args, []string{"bob", "ann"}) || len(b[1].Body) != 0 {
		t.Errorf("Parse: %v, error %d", b, e)
	}
	if b, e := custom.Parse(""); len(b) != 0 || e != api.OK {
		t.Errorf("Parse of nothing: %v, error %d", b, e)
	}
	for _, none := range [][]api.Clause{nil, {}} {
		if s, e := custom.Format(none); s != "" || e != api.OK {
			t.Errorf("Format of nothing: %q, error %d", s, e)
		}
	}
}

// checkParse holds a text against the words of the chapter: what expressions take
// apart must be there again when it is put together.
func checkParse(t *testing.T, text string) {
	t.Helper()
	right := true
	w := read(text)
	for _, clause := range w {
		right = right && len(clause) <= 3
		for _, a := range clause {
			right = right && isAtomText(a)
		}
	}
	right = right && w.String() == text && w.valid()
	b, e := custom.Parse(text)
	if right && (e != api.OK || !sameBook(b, w.book())) || !right && (e != api.ErrForm || len(b) != 0) {
		t.Errorf("Parse of %q: %v, error %d", text, b, e)
	}
}

// P9.2: texts that no book has.
func TestParseErrors(t *testing.T) {
	for _, text := range []string{
		" ", ";", "; ", "p(a);", "p(a); ", "; p(a)", "p(a);p(b)", "p(a) ; p(b)", "p(a);  p(b)", "p(a); ; p(b)", "p(a)\n", "p(a)\np(b)", "p(a), p(b)", "p(a) p(b)", "p(a)p(b)",
		"p(a) if", "p(a) if ", " if p(a)", "if p(a)", "p(a)if p(b)", "p(a) ifp(b)", "p(a)  if p(b)", "p(a) if  p(b)", "p(a) IF p(b)", "p(a) if p(b) if p(c)", "p(a) if p(b) and", "p(a) if p(b) and ", "p(a) if and p(b)", "p(a) if  and p(b)", "p(a) and p(b)", "p(a) if p(b) and p(c) and p(d)", "p(a) if p(b) and p(c) if p(d)", "p(a) and p(b) if p(c)", "p(a) if p(b), p(c)", "p(a) if p(b)and p(c)", "p(a) if p(b) andp(c)", "p(a) if if p(b)",
		"p", "p(", "p)", "p()", "()", "(a)", "p(a", "pa)", "p(a))", "p((a)", "p((a))", "p(a)(b)", "p (a)", "p( a)", "p(a )", "p(a,)", "p(a, )", "p(, a)", "p(,a)", "p(a,b)", "p(a,  b)", "p(a , b)", "p(a, b, c)", "p(a, b, )", "p(a; b)", "p(a), b)", "p(a and b)", "p[a]", "p(q(a))",
		"P(a)", "pP(a)", "p(XY)", "p(Xy)", "p(aX)", "p1(a)", "p(1)", "p(abcdefghi)", "abcdefghi(a)", "if(a)", "and(a)", "p(if)", "p(and)", "p(a, if)", "p(and, a)", "q(a) if if(a)", "q(a) if p(if)", "q(a) if p(a) and and(a)", "é(a)", "p(é)", "p(\xff)", "p(a\x00)",
	} {
		checkParse(t, text)
		if b, e := custom.Parse(text); len(b) != 0 || e != api.ErrForm {
			t.Errorf("Parse of %q: %v, error %d", text, b, e)
		}
	}
	for text, b := range badBooks() {
		if !strings.Contains(text, "(") {
			continue
		}
		if l, e := custom.Parse(text); len(l) != 0 || e != api.ErrForm {
			t.Errorf("Parse of %q: %v, error %d, for %v", text, l, e, b)
		}
	}
}

// P9.2, P9.8: texts with one change or two.
func TestChangedTexts(t *testing.T) {
	r := rand.New(rand.NewPCG(9, 2))
	signs := []string{"", " ", ",", ", ", ";", "; ", "(", ")", "a", "b", "X", "Y", "A", "if", " if ", "and", " and ", "p(a)", "p(X)", "q(a, b)", "\n", "é", "ab", "1"}
	for _, w := range slices.Concat(exampleLaws(), drawnLaws(300)) {
		for range 60 {
			text := w.String()
			for range 1 + r.IntN(2) {
				at := r.IntN(len(text) + 1)
				to := at + r.IntN(min(3, len(text)-at+1))
				text = text[:at] + signs[r.IntN(len(signs))] + text[to:]
			}
			checkParse(t, text)
		}
	}
}

// P9.2: all texts of few parts.
func TestShortTexts(t *testing.T) {
	parts := []string{"p", "X", "if", "and", " ", "(", ")", ", ", "; ", "p(a)", "p(X)", " if ", " and "}
	var walk func(text string, left int)
	walk = func(text string, left int) {
		checkParse(t, text)
		checkRead(t, text)
		if left > 0 {
			for _, part := range parts {
				walk(text+part, left-1)
			}
		}
	}
	walk("", 4)
	for b := range 256 {
		for _, text := range []string{string([]byte{byte(b)}), string([]byte{byte(b)}) + "(a)", "p(" + string([]byte{byte(b)}) + ")", "p(a" + string([]byte{byte(b)}) + ")", "p(a, " + string([]byte{byte(b)}) + ")"} {
			checkParse(t, text)
			checkRead(t, text)
		}
	}
}

// P9.2: ErrLimit for more than 4000 bytes, whatever they are.
func TestLongTexts(t *testing.T) {
	for _, c := range []struct {
		text string
		want api.Errno
	}{
		{strings.Repeat("a", 4000), api.ErrForm}, {strings.Repeat("a", 4001), api.ErrLimit}, {strings.Repeat(" ", 1<<20), api.ErrLimit},
		{strings.Repeat("p(a); ", 666) + "p(a)", api.ErrForm}, {strings.Repeat("p(a); ", 666) + "p(aa)", api.ErrLimit}, {strings.Repeat("p(a); ", 667), api.ErrLimit},
		{"p(a)" + strings.Repeat(" ", 3996), api.ErrForm}, {"p(a)" + strings.Repeat(" ", 3997), api.ErrLimit},
		{strings.Repeat(";", 4000), api.ErrForm}, {strings.Repeat("; ", 2000), api.ErrForm}, {strings.Repeat("; ", 2001), api.ErrLimit},
	} {
		if b, e := custom.Parse(c.text); len(b) != 0 || e != c.want {
			t.Errorf("Parse of %d bytes of %.10q: error %d, want %d", len(c.text), c.text, e, c.want)
		}
	}
	longest := law(slices.Repeat([][]string{{"predpred(A, B)", "predpred(A, abcdefgh)", "predpred(zyxwvuts, B)"}}, 20))
	if b, e := custom.Parse(longest.String()); e != api.OK || !sameBook(b, longest.book()) {
		t.Errorf("Parse of a great book: error %d", e)
	}
	for _, text := range []string{strings.Repeat("p(a)", 1<<20), "p(" + strings.Repeat("a, ", 1<<20) + "a)", strings.Repeat("a", 1<<20) + "(a)", "p(" + strings.Repeat("a", 1<<20) + ")", strings.Repeat("(", 1<<20), strings.Repeat(")", 1<<20), strings.Repeat("p(a); ", 700)} {
		if a, e := custom.Read(text); a.Pred != "" || len(a.Args) != 0 || e != api.ErrForm {
			t.Errorf("Read of %d bytes of %.10q: %v, error %d", len(text), text, a, e)
		}
	}
}

// checkRead holds a text against the words of the chapter.
func checkRead(t *testing.T, text string) {
	t.Helper()
	a, e := custom.Read(text)
	if !isAtomText(text) {
		if a.Pred != "" || len(a.Args) != 0 || e != api.ErrForm {
			t.Errorf("Read of %q: %v, error %d", text, a, e)
		}
		return
	}
	if !sameAtom(a, atom(text)) || e != api.OK {
		t.Errorf("Read of %q: %v, error %d", text, a, e)
	}
	if back, e := custom.Text(a); back != text || e != api.OK {
		t.Errorf("Text of %v: %q, error %d", a, back, e)
	}
}

// P9.2, P9.8: atoms and their texts.
func TestAtoms(t *testing.T) {
	seen := map[string]bool{}
	for _, w := range slices.Concat(laws(), limitLaws()) {
		for _, clause := range w {
			for _, a := range clause {
				if !seen[a] {
					checkRead(t, a)
					if !isAtomText(a) {
						t.Errorf("%q is no text of an atom", a)
					}
				}
				seen[a] = true
			}
		}
	}
	for _, text := range []string{"", "p", "p(", "p()", "p(a", "p(a) ", " p(a)", "p(a)\n", "\np(a)", "p(a,b)", "p(a, )", "p(, a)", "p(a,  b)", "p(a, b, c)", "p(a, b, c, d)", "p (a)", "p(a))", "p((a)", "p(a)b", "p(a); p(b)", "p(a) if p(a)", "if(a)", "and(X)", "p(if)", "p(X, and)", "P(a)", "X(a)", "p(XY)", "p(X, Yy)", "p(abcdefghi)", "abcdefghi(X)", "p(a, abcdefghi)", "p(a;b)", "é(a)", "p(é)", "p(É)", "p(\xff)"} {
		checkRead(t, text)
		if a, e := custom.Read(text); a.Pred != "" || len(a.Args) != 0 || e != api.ErrForm {
			t.Errorf("Read of %q: %v, error %d", text, a, e)
		}
	}
}
