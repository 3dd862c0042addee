package follow

import (
	"axiom/api"
	"axiom/facts"
	"axiom/program"
)

type fact struct {
	pred string
	row  facts.Row
}

type pair struct{ variable, name string }

// binding has the names that stand for a rule's variables. It is a value without pointers into others, so that each branch of a search has its own. The room is enough: all variables of a rule stand in its body.
type binding struct {
	size  int
	pairs [api.MaxBody * api.MaxPlaces]pair
}

// name gives the name that a term stands for; the empty one, if there is none yet.
func (b *binding) name(t program.Term) string {
	if t.Kind == program.Name {
		return t.Text
	}
	for _, p := range b.pairs[:b.size] {
		if p.variable == t.Text {
			return p.name
		}
	}
	return ""
}

func (b *binding) set(variable, name string) {
	b.pairs[b.size] = pair{variable, name}
	b.size++
}

// match gives the binding by which an atom becomes a fact, if there is one that goes on from b.
func (b binding) match(a program.Atom, f fact) (binding, bool) {
	if a.Pred != f.pred {
		return binding{}, false
	}
	for i, t := range a.Terms {
		switch b.name(t) {
		case f.row[i]:
		case "":
			b.set(t.Text, f.row[i])
		default:
			return binding{}, false
		}
	}
	return b, true
}

// fact gives the fact that an atom becomes if all its variables have names.
func (b *binding) fact(a program.Atom) fact {
	f := fact{pred: a.Pred}
	for i, t := range a.Terms {
		f.row[i] = b.name(t)
	}
	return f
}
