package custom

import (
	"strings"

	"sedge/api"
)

// What stands between the parts of a text.
const (
	betweenClauses = "; "
	aheadOfBody    = " if "
	betweenAtoms   = " and "
	betweenArgs    = ", "
)

// Format returns the text of a book.
func Format(b []api.Clause) (string, api.Errno) {
	if !Valid(b) {
		return "", api.ErrBook
	}
	var clauses []string
	for _, c := range b {
		clauses = append(clauses, clauseText(c))
	}
	return strings.Join(clauses, betweenClauses), api.OK
}

// Parse returns the book of a text.
func Parse(text string) ([]api.Clause, api.Errno) {
	if len(text) > api.MaxText {
		return nil, api.ErrLimit
	}
	if text == "" {
		return nil, api.OK
	}
	var b []api.Clause
	for part := range strings.SplitSeq(text, betweenClauses) {
		b = append(b, readClause(part))
	}
	if !Valid(b) {
		return nil, api.ErrForm
	}
	return b, api.OK
}

// Text returns the text of an atom.
func Text(a api.Atom) (string, api.Errno) {
	if !isAtom(a) {
		return "", api.ErrAtom
	}
	return atomText(a), api.OK
}

// Read returns the atom of a text.
func Read(text string) (api.Atom, api.Errno) {
	a := readAtom(text)
	if !isAtom(a) {
		return api.Atom{}, api.ErrForm
	}
	return a, api.OK
}

func clauseText(c api.Clause) string {
	if len(c.Body) == 0 {
		return atomText(c.Head)
	}
	var body []string
	for _, a := range c.Body {
		body = append(body, atomText(a))
	}
	return atomText(c.Head) + aheadOfBody + strings.Join(body, betweenAtoms)
}

func atomText(a api.Atom) string {
	return a.Pred + "(" + strings.Join(a.Args, betweenArgs) + ")"
}

// readClause returns the clause of a text, or one with what is no atom if there is
// none.
func readClause(text string) api.Clause {
	head, body, is := strings.Cut(text, aheadOfBody)
	c := api.Clause{Head: readAtom(head)}
	if !is {
		return c
	}
	for part := range strings.SplitSeq(body, betweenAtoms) {
		c.Body = append(c.Body, readAtom(part))
	}
	return c
}

// readAtom returns the atom of a text, or what is no atom if there is none. Args
// that are too many stay together, and are no word then.
func readAtom(text string) api.Atom {
	pred, rest, _ := strings.Cut(text, "(")
	args, is := strings.CutSuffix(rest, ")")
	if !is {
		return api.Atom{}
	}
	return api.Atom{Pred: pred, Args: strings.SplitN(args, betweenArgs, maxArgs)}
}
