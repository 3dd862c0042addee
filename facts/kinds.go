package facts

import (
	"slices"

	"axiom/program"
)

// Given is what was given of one predicate.
type Given struct{ Table }

// NoneGiven makes empty tables, to be found by their predicates.
func NoneGiven(preds []program.Pred) map[string]*Given {
	tables := map[string]*Given{}
	for _, p := range preds {
		tables[p.Name] = &Given{Table{pred: p}}
	}
	return tables
}

// CopyGiven makes tables that can be changed while the old ones stay as they are.
func CopyGiven(old map[string]*Given) map[string]*Given {
	tables := map[string]*Given{}
	for name, g := range old {
		tables[name] = &Given{Table{g.pred, g.Rows()}}
	}
	return tables
}

// Come lets a fact be given; once more is no change.
func (g *Given) Come(r Row) { g.put(r) }

// Leave lets a fact be given no longer; if it was not, that is no change.
func (g *Given) Leave(r Row) {
	if at, found := g.find(r); found {
		g.rows = slices.Delete(g.rows, at, at+1)
	}
}

// Holds is what holds of one predicate, with the count of each fact.
type Holds struct {
	Table
	counts []int // in the order of the rows
}

// NoneHolds makes empty tables, to be found by their predicates.
func NoneHolds(preds []program.Pred) map[string]*Holds {
	tables := map[string]*Holds{}
	for _, p := range preds {
		tables[p.Name] = &Holds{Table: Table{pred: p}}
	}
	return tables
}

// Hold lets a fact hold by so many instances more, and tells whether it is new.
func (h *Holds) Hold(r Row, instances int) bool {
	at, isNew := h.put(r)
	if isNew {
		h.counts = slices.Insert(h.counts, at, 0)
	}
	h.counts[at] += instances
	return isNew
}

// Count is 0 for a fact that does not hold.
func (h *Holds) Count(r Row) int {
	if at, found := h.find(r); found {
		return h.counts[at]
	}
	return 0
}

// Total tells how many facts there are in all tables.
func Total[T interface{ Len() int }](tables map[string]T) int {
	n := 0
	for _, t := range tables {
		n += t.Len()
	}
	return n
}
