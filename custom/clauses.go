package custom

import (
	"slices"

	"sedge/api"
)

const maxSet = 1000 // atoms of a set for Closed

// Closed reports whether a set is closed for a book. Of the set, only atoms with
// words of the book alone are in instances.
func Closed(b []api.Clause, set []api.Atom) (bool, api.Errno) {
	if !Valid(b) {
		return false, api.ErrBook
	}
	if len(set) > maxSet {
		return false, api.ErrArg
	}
	words, known := wordsOf(b), pool{}
	for _, a := range set {
		if !isPlain(a) {
			return false, api.ErrAtom
		}
		if !slices.ContainsFunc(a.Args, func(word string) bool { return !words[word] }) {
			known.add(a)
		}
	}
	for _, c := range b {
		for by := range bindings(binding{}, c.Body, known) {
			if !known.has(by.of(c.Head)) {
				return false, api.OK
			}
		}
	}
	return true, api.OK
}

// Without returns the atoms that follow from a book, but not without a clause.
func Without(b []api.Clause, i int) ([]api.Atom, api.Errno) {
	if !Valid(b) {
		return nil, api.ErrBook
	}
	if i < 0 || i >= len(b) {
		return nil, api.ErrArg
	}
	rest := followWithout(b, i)
	return follow(b).atoms(func(a api.Atom) bool { return !rest.has(a) }), api.OK
}

// Idle returns the clauses without which the same follows.
func Idle(b []api.Clause) ([]int, api.Errno) {
	if !Valid(b) {
		return nil, api.ErrBook
	}
	all := follow(b)
	var out []int
	for i := range b {
		// Nothing else follows from fewer clauses, so that the count tells.
		if len(followWithout(b, i).facts) == len(all.facts) {
			out = append(out, i)
		}
	}
	return out, api.OK
}

// followWithout returns what follows without a clause. The words that only this
// clause has may be left out: no atom that follows from the others has them.
func followWithout(b []api.Clause, i int) *outcome {
	return follow(slices.Concat(b[:i], b[i+1:]))
}
