// Package program reads the text of a program: its tokens, its rules, and whether they keep the limits.
package program

import (
	"slices"
	"strings"

	"axiom/api"
)

// TermKind is what an atom's place may be.
type TermKind int

const (
	Name TermKind = iota
	Variable
)

// Term is what stands in a place of an atom.
type Term struct {
	Kind TermKind
	Text string
}

// Atom is a predicate with its terms; At is its first byte in the text.
type Atom struct {
	At    int
	Pred  string
	Terms []Term
}

// Rule is a head and, perhaps, a body.
type Rule struct {
	Head Atom
	Body []Atom
}

// atoms gives the atoms in the order of the text.
func (r Rule) atoms() []Atom { return append([]Atom{r.Head}, r.Body...) }

// Program is some rules and their plain form.
type Program struct {
	Plain string
	Rules []Rule
}

// Pred is a predicate and the number of its places.
type Pred struct {
	Name   string
	Places int
}

// Preds gives the predicates in the order of their names' bytes.
func (p Program) Preds() []Pred {
	var preds []Pred
	for _, r := range p.Rules {
		for _, a := range r.atoms() {
			preds = append(preds, Pred{a.Pred, len(a.Terms)})
		}
	}
	slices.SortFunc(preds, func(a, b Pred) int { return strings.Compare(a.Name, b.Name) })
	return slices.Compact(preds)
}

// Read makes a program of a text, or tells the error and its place (P3).
func Read(text string) (Program, api.Errno, int) {
	if len(text) > api.MaxText {
		return Program{}, api.ErrLong, 0
	}
	text = strings.Clone(text) // the rules hold pieces of it, and nothing that is handed in is kept
	p := parser{tokens: split(text)}
	rules, ok := p.rules()
	if !ok {
		return Program{}, api.ErrForm, p.peek().at
	}
	if at, found := tooMany(rules); found {
		return Program{}, api.ErrMany, at
	}
	if at, found := twoArities(rules); found {
		return Program{}, api.ErrArity, at
	}
	if at, found := openHead(rules); found {
		return Program{}, api.ErrSafe, at
	}
	return Program{plainForm(p.tokens), rules}, api.OK, 0
}
