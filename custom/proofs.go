package custom

import (
	"slices"

	"sedge/api"
)

const maxSteps = 2000 // of a list for IsProof

// Proof returns a proof of a plain atom: the instances by which it follows, and
// those by which what it needs does.
func Proof(b []api.Clause, a api.Atom) ([]api.Step, api.Errno) {
	if err := check(b, a); err != api.OK {
		return nil, err
	}
	o := follow(b)
	if !o.has(a) {
		return nil, api.ErrNone
	}
	goal := o.at[atomText(a)]
	needed := make([]bool, goal+1)
	needed[goal] = true
	for i, f := range slices.Backward(o.facts[:goal+1]) {
		if needed[i] {
			for _, at := range f.body {
				needed[at] = true
			}
		}
	}
	var out []api.Step
	for i, is := range needed {
		if is {
			out = append(out, api.Step{Clause: o.facts[i].clause, Atom: o.facts[i].atom})
		}
	}
	return out, api.OK
}

// IsProof reports whether a list is a proof of a plain atom.
func IsProof(b []api.Clause, a api.Atom, l []api.Step) (bool, api.Errno) {
	if err := check(b, a); err != api.OK {
		return false, err
	}
	if len(l) == 0 || len(l) > maxSteps {
		return false, api.OK
	}
	known := pool{}
	for _, s := range l {
		if s.Clause < 0 || s.Clause >= len(b) || !isPlain(s.Atom) || !isStep(b[s.Clause], s.Atom, known) {
			return false, api.OK
		}
		known.add(s.Atom)
	}
	return atomText(l[len(l)-1].Atom) == atomText(a), api.OK
}

// isStep reports whether a plain atom is the Head of an instance whose Body's atoms
// are all in a pool.
func isStep(c api.Clause, a api.Atom, known pool) bool {
	from, is := bound(c.Head, a)
	if !is {
		return false
	}
	for range bindings(from, c.Body, known) {
		return true
	}
	return false
}
