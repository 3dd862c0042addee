package axiom_test

import (
	"maps"
	"math/rand"
	"slices"
	"strings"
	"testing"

	"axiom/api"
	"axiom/axiom"
)

// An atom here is a predicate and its terms, a rule its head and its body: what the program's text is written from, not read from.
type atom []string

type rule []atom

func (a atom) text() string { return a[0] + "(" + strings.Join(a[1:], ",") + ")" }

func (r rule) text() string {
	var body []string
	for _, a := range r[1:] {
		body = append(body, a.text())
	}
	if len(body) == 0 {
		return r[0].text() + "."
	}
	return r[0].text() + " :- " + strings.Join(body, ", ") + "."
}

func isVariable(term string) bool { return term[0] >= 'A' && term[0] <= 'Z' }

func (r rule) variables() []string {
	var vs []string
	for _, a := range r {
		for _, term := range a[1:] {
			if isVariable(term) && !slices.Contains(vs, term) {
				vs = append(vs, term)
			}
		}
	}
	return vs
}

// with puts names in the place of variables, and gives the fact as one text.
func (a atom) with(names map[string]string) string {
	words := slices.Clone(a)
	for i, w := range words[1:] {
		if isVariable(w) {
			words[i+1] = names[w]
		}
	}
	return strings.Join(words, " ")
}

// oracle works out what holds from the document's words alone: it goes over all instances with the names that there are, again and again, until nothing more holds.
type oracle struct {
	rules []rule
	given map[string]bool
}

func (o oracle) text() string {
	var lines []string
	for _, r := range o.rules {
		lines = append(lines, r.text())
	}
	return strings.Join(lines, "\n")
}

func (o oracle) names() []string {
	set := map[string]bool{}
	for _, r := range o.rules {
		for _, a := range r {
			for _, term := range a[1:] {
				if !isVariable(term) {
					set[term] = true
				}
			}
		}
	}
	for f := range o.given {
		for _, name := range strings.Fields(f)[1:] {
			set[name] = true
		}
	}
	return slices.Sorted(maps.Keys(set))
}

// eachInstance calls with the head and the body of each instance of a rule.
func eachInstance(r rule, names []string, do func(head string, body []string)) {
	vs := r.variables()
	bound := map[string]string{}
	var bind func(i int)
	bind = func(i int) {
		if i == len(vs) {
			var body []string
			for _, a := range r[1:] {
				body = append(body, a.with(bound))
			}
			do(r[0].with(bound), body)
			return
		}
		for _, name := range names {
			bound[vs[i]] = name
			bind(i + 1)
		}
	}
	bind(0)
}

func (o oracle) eachHolding(model map[string]bool, do func(head string)) {
	names := o.names()
	for _, r := range o.rules {
		eachInstance(r, names, func(head string, body []string) {
			if !slices.ContainsFunc(body, func(f string) bool { return !model[f] }) {
				do(head)
			}
		})
	}
}

// model gives what holds, and the counts.
func (o oracle) model() map[string]int {
	set := maps.Clone(o.given)
	for before := -1; before < len(set); {
		before = len(set)
		var more []string
		o.eachHolding(set, func(head string) { more = append(more, head) })
		for _, f := range more {
			set[f] = true
		}
	}
	counts := map[string]int{}
	for f := range set {
		counts[f] = 0
	}
	o.eachHolding(set, func(head string) { counts[head]++ })
	return counts
}

func (o oracle) places() map[string]int {
	places := map[string]int{}
	for _, r := range o.rules {
		for _, a := range r {
			places[a[0]] = len(a) - 1
		}
	}
	return places
}

// apply gives what is given behind a change, and the error that the document asks for.
func (o oracle) apply(come, gone []string) (oracle, api.Errno) {
	next := oracle{o.rules, maps.Clone(o.given)}
	for _, f := range come {
		next.given[f] = true
	}
	for _, f := range gone {
		delete(next.given, f)
	}
	if len(next.given) > api.MaxFacts || len(next.model()) > api.MaxModel {
		return o, api.ErrFull
	}
	return next, api.OK
}

// everyFact gives all facts of the program with these names, as texts.
func (o oracle) everyFact(names []string) []string {
	var out []string
	places := o.places()
	for _, pred := range slices.Sorted(maps.Keys(places)) {
		list := []string{pred}
		for range places[pred] {
			var longer []string
			for _, f := range list {
				for _, name := range names {
					longer = append(longer, f+" "+name)
				}
			}
			list = longer
		}
		out = append(out, list...)
	}
	return out
}

// compareFacts is the order of P7, for facts of one predicate as texts.
func compareFacts(a, b string) int { return slices.Compare(strings.Fields(a), strings.Fields(b)) }

// wantLike holds an engine against the oracle: each fact with some names by Ask, each predicate by All.
func wantLike(t *testing.T, e *axiom.Engine, o oracle, names []string) {
	t.Helper()
	model := o.model()
	for _, f := range o.everyFact(names) {
		count, holds := model[f]
		want := api.Truth{Given: o.given[f], Holds: holds, Count: count}
		if got, err := e.Ask(one(f)); got != want || err != api.OK {
			t.Fatalf("P6: Ask(%s) = %+v, %d, want %+v, of\n%s\n%v", f, got, err, want, o.text(), o.given)
		}
	}
	for pred := range o.places() {
		var want []string
		for f := range model {
			if strings.HasPrefix(f, pred+" ") {
				want = append(want, f)
			}
		}
		slices.SortFunc(want, compareFacts)
		if got := allTexts(t, e, pred); !slices.Equal(got, want) {
			t.Fatalf("P7: All(%s) = %v, want %v, of\n%s\n%v", pred, got, want, o.text(), o.given)
		}
	}
}

// someRules makes a program: few predicates and names, so that rules meet.
func someRules(r *rand.Rand) []rule {
	places := map[string]int{"p": 1, "q": 2, "r": 1 + r.Intn(3), "s": 1 + r.Intn(3)}
	preds := []string{"p", "q", "r", "s"}
	pick := func(from []string) string { return from[r.Intn(len(from))] }
	some := func(terms []string) atom {
		a := atom{pick(preds)}
		for range places[a[0]] {
			a = append(a, pick(terms))
		}
		return a
	}
	var rules []rule
	for range 1 + r.Intn(api.MaxRules) {
		var body []atom
		if n := r.Intn(8); n > 0 {
			body = append(body, some([]string{"X", "X", "Y", "Z", "a"}))
			if n > 2 {
				body = append(body, some([]string{"X", "Y", "Y", "W", "b"}))
			}
		}
		terms := append(rule(body).variables(), "a")
		rules = append(rules, append(rule{some(terms)}, body...))
	}
	return rules
}

func someFacts(r *rand.Rand, all []string, n int) []string {
	var out []string
	for range n {
		out = append(out, all[r.Intn(len(all))])
	}
	return out
}
