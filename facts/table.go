// Package facts keeps the facts of a predicate in order: those that were given, and those that hold.
package facts

import (
	"slices"
	"strings"

	"axiom/api"
	"axiom/program"
)

// Row is the names of a fact; behind the last place of its predicate they are empty. As an array it shares no memory with another.
type Row [api.MaxPlaces]string

func compareRows(a, b Row) int { return slices.Compare(a[:], b[:]) }

// Table is some facts of one predicate, in the order of their names.
type Table struct {
	pred program.Pred
	rows []Row
}

// Row makes a row of names, if they are those of a fact of this predicate.
func (t *Table) Row(names []string) (Row, bool) {
	if len(names) != t.pred.Places {
		return Row{}, false
	}
	var r Row
	for i, name := range names {
		if !program.IsName(name) {
			return Row{}, false
		}
		r[i] = strings.Clone(name) // it may be kept, and what is handed in is not
	}
	return r, true
}

// Len tells how many facts there are.
func (t *Table) Len() int { return len(t.rows) }

// Has tells whether a fact is among them.
func (t *Table) Has(r Row) bool {
	_, found := t.find(r)
	return found
}

// Rows gives the names of the facts, in order.
func (t *Table) Rows() []Row { return slices.Clone(t.rows) }

// Facts gives the facts, in order; each has a list of its own.
func (t *Table) Facts() []api.Fact {
	list := make([]api.Fact, len(t.rows))
	for i, r := range t.rows {
		list[i] = api.Fact{Pred: t.pred.Name, Args: slices.Clone(r[:t.pred.Places])}
	}
	return list
}

func (t *Table) find(r Row) (int, bool) { return slices.BinarySearchFunc(t.rows, r, compareRows) }

// put tells where the fact stands now, and whether it is new.
func (t *Table) put(r Row) (int, bool) {
	at, found := t.find(r)
	if !found {
		t.rows = slices.Insert(t.rows, at, r)
	}
	return at, !found
}
