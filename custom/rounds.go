package custom

import (
	"iter"
	"maps"
	"slices"

	"sedge/api"
)

// fact is an atom that follows, with its round, and with an instance by which it
// does: of a clause, with the atoms of the Body by their indexes.
type fact struct {
	atom   api.Atom
	round  int
	clause int
	body   []int
}

// outcome is all that follows from a book, in the order of the rounds.
type outcome struct {
	facts []fact
	at    map[string]int // the indexes of the atoms by their texts
}

// All returns all atoms that follow from a book.
func All(b []api.Clause) ([]api.Atom, api.Errno) {
	if !Valid(b) {
		return nil, api.ErrBook
	}
	return follow(b).atoms(func(api.Atom) bool { return true }), api.OK
}

// Follows reports whether a plain atom follows from a book.
func Follows(b []api.Clause, a api.Atom) (bool, api.Errno) {
	if err := check(b, a); err != api.OK {
		return false, err
	}
	return follow(b).has(a), api.OK
}

// Round returns the round in which a plain atom follows.
func Round(b []api.Clause, a api.Atom) (int, api.Errno) {
	if err := check(b, a); err != api.OK {
		return 0, err
	}
	o := follow(b)
	if !o.has(a) {
		return 0, api.ErrNone
	}
	return o.facts[o.at[atomText(a)]].round, api.OK
}

// Rounds returns the greatest round, 0 if nothing follows.
func Rounds(b []api.Clause) (int, api.Errno) {
	if !Valid(b) {
		return 0, api.ErrBook
	}
	facts := follow(b).facts
	if len(facts) == 0 {
		return 0, api.OK
	}
	return facts[len(facts)-1].round, api.OK
}

// Ask returns the atoms that follow and that an atom becomes if its variables are
// replaced by words.
func Ask(b []api.Clause, a api.Atom) ([]api.Atom, api.Errno) {
	if !Valid(b) {
		return nil, api.ErrBook
	}
	if !isAtom(a) {
		return nil, api.ErrAtom
	}
	return follow(b).atoms(func(plain api.Atom) bool {
		_, is := bound(a, plain)
		return is
	}), api.OK
}

// check returns the first error of a book and a plain atom.
func check(b []api.Clause, a api.Atom) api.Errno {
	if !Valid(b) {
		return api.ErrBook
	}
	if !isPlain(a) {
		return api.ErrAtom
	}
	return api.OK
}

// follow returns what follows from a valid book. An atom is known when its turn
// comes, so that each instance comes with the last atom of its Body: as the turns
// are in the order of the rounds, the first instance of an atom is one of the
// least round.
func follow(b []api.Clause) *outcome {
	o := &outcome{at: map[string]int{}}
	for i, c := range b {
		if len(c.Body) == 0 {
			o.add(i, c, binding{})
		}
	}
	known := pool{}
	for turn := 0; turn < len(o.facts); turn++ {
		last := o.facts[turn].atom
		known.add(last)
		for i, c := range b {
			for by := range bindingsWith(last, c.Body, known) {
				o.add(i, c, by)
			}
		}
	}
	return o
}

// bindingsWith gives out the bindings by which all atoms of a Body become such of
// a pool, one of them a certain one; some of them twice.
func bindingsWith(plain api.Atom, body []api.Atom, known pool) iter.Seq[binding] {
	return func(yield func(binding) bool) {
		for i, a := range body {
			from, is := bound(a, plain)
			if !is {
				continue
			}
			for by := range bindings(from, slices.Concat(body[:i], body[i+1:]), known) {
				if !yield(by) {
					return
				}
			}
		}
	}
}

// add adds the Head of an instance, if it has not followed yet.
func (o *outcome) add(i int, c api.Clause, by binding) {
	f := fact{atom: by.of(c.Head), round: 1, clause: i}
	if o.has(f.atom) {
		return
	}
	for _, a := range c.Body {
		at := o.at[atomText(by.of(a))]
		f.body = append(f.body, at)
		f.round = max(f.round, o.facts[at].round+1)
	}
	o.at[atomText(f.atom)] = len(o.facts)
	o.facts = append(o.facts, f)
}

func (o *outcome) has(a api.Atom) bool {
	_, is := o.at[atomText(a)]
	return is
}

// atoms returns the atoms that are wanted in ascending order of their texts.
func (o *outcome) atoms(wanted func(api.Atom) bool) []api.Atom {
	var out []api.Atom
	for _, text := range slices.Sorted(maps.Keys(o.at)) {
		if a := o.facts[o.at[text]].atom; wanted(a) {
			out = append(out, a)
		}
	}
	return out
}
