package custom

import (
	"iter"
	"maps"
	"slices"

	"sedge/api"
)

// binding has the words by which variables are replaced.
type binding map[string]string

// pool has plain atoms by their Preds, each of them once.
type pool map[string][]api.Atom

// bound returns the binding by which an atom becomes a plain one, and false if
// there is none.
func bound(a, plain api.Atom) (binding, bool) {
	if a.Pred != plain.Pred || len(a.Args) != len(plain.Args) {
		return nil, false
	}
	by := binding{}
	for i, arg := range a.Args {
		if isVariable(arg) {
			by[arg] = plain.Args[i]
		}
	}
	// A variable that stands for two words has the last one alone, a word may be another one.
	return by, slices.Equal(by.of(a).Args, plain.Args)
}

// bindings gives out the bindings that go on from one and by which all atoms of a
// list become such of a pool, which must not change meanwhile.
func bindings(from binding, list []api.Atom, known pool) iter.Seq[binding] {
	return func(yield func(binding) bool) {
		if len(list) == 0 {
			yield(from)
			return
		}
		for _, plain := range known[list[0].Pred] {
			by, is := from.and(list[0], plain)
			if !is {
				continue
			}
			for all := range bindings(by, list[1:], known) {
				if !yield(all) {
					return
				}
			}
		}
	}
}

// of returns what an atom becomes.
func (b binding) of(a api.Atom) api.Atom {
	out := api.Atom{Pred: a.Pred, Args: slices.Clone(a.Args)}
	for i, arg := range a.Args {
		if word, is := b[arg]; is {
			out.Args[i] = word
		}
	}
	return out
}

// and returns the binding by which one more atom becomes a plain one, and false if
// there is none.
func (b binding) and(a, plain api.Atom) (binding, bool) {
	more, is := bound(a, plain)
	if !is {
		return nil, false
	}
	out := maps.Clone(b)
	for variable, word := range more {
		if known, is := b[variable]; is && known != word {
			return nil, false
		}
		out[variable] = word
	}
	return out, true
}

func (p pool) has(a api.Atom) bool {
	return slices.ContainsFunc(p[a.Pred], func(known api.Atom) bool {
		return slices.Equal(known.Args, a.Args)
	})
}

func (p pool) add(a api.Atom) {
	if !p.has(a) {
		p[a.Pred] = append(p[a.Pred], a)
	}
}
