package program

import (
	"slices"

	"axiom/api"
)

// tooMany finds the first rule that is above a limit, by itself or with those ahead of it.
func tooMany(rules []Rule) (int, bool) {
	var preds []string
	for i, r := range rules {
		preds = addPreds(preds, r)
		if i >= api.MaxRules || len(r.Body) > api.MaxBody || len(preds) > api.MaxPreds || slices.ContainsFunc(r.atoms(), isWide) {
			return r.Head.At, true
		}
	}
	return 0, false
}

func addPreds(preds []string, r Rule) []string {
	for _, a := range r.atoms() {
		if !slices.Contains(preds, a.Pred) {
			preds = append(preds, a.Pred)
		}
	}
	return preds
}

func isWide(a Atom) bool { return len(a.Terms) > api.MaxPlaces }

// twoArities finds the first predicate that stood ahead of it with another number of places.
func twoArities(rules []Rule) (int, bool) {
	places := map[string]int{}
	for _, r := range rules {
		for _, a := range r.atoms() {
			if n, ok := places[a.Pred]; ok && n != len(a.Terms) {
				return a.At, true
			}
			places[a.Pred] = len(a.Terms)
		}
	}
	return 0, false
}

// openHead finds the first rule whose head has a variable that its body does not have.
func openHead(rules []Rule) (int, bool) {
	for _, r := range rules {
		for _, t := range r.Head.Terms {
			if t.Kind == Variable && !bodyHas(r, t) {
				return r.Head.At, true
			}
		}
	}
	return 0, false
}

func bodyHas(r Rule, t Term) bool {
	return slices.ContainsFunc(r.Body, func(a Atom) bool { return slices.Contains(a.Terms, t) })
}
