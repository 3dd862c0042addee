// Package follow works out what follows from facts by the rules of a program.
package follow

import (
	"axiom/api"
	"axiom/facts"
	"axiom/program"
)

// search goes over the facts that hold in the order in which they are found. Each is the newest once, and then the instances are met that it makes whole; so each instance is met once, and a fact that holds up itself alone is never found.
type search struct {
	rules []program.Rule
	holds map[string]*facts.Holds
	found []fact
}

// Model works out what holds, with the counts; false, if that is more than api.MaxModel facts.
func Model(p program.Program, given map[string]*facts.Given) (map[string]*facts.Holds, bool) {
	preds := p.Preds()
	s := search{rules: p.Rules, holds: facts.NoneHolds(preds)}
	for _, pred := range preds {
		for _, r := range given[pred.Name].Rows() {
			s.hold(fact{pred.Name, r}, 0)
		}
	}
	s.takeBodiless()
	for newest := 0; newest < len(s.found); newest++ {
		if len(s.found) > api.MaxModel {
			return nil, false
		}
		s.meet(newest)
	}
	return s.holds, true
}

func (s *search) hold(f fact, instances int) {
	if s.holds[f.pred].Hold(f.row, instances) {
		s.found = append(s.found, f)
	}
}

// takeBodiless takes the rules without a body: each is its one instance, and no fact has to be found for it.
func (s *search) takeBodiless() {
	for _, r := range s.rules {
		if len(r.Body) == 0 {
			s.conclude(r, binding{})
		}
	}
}

func (s *search) conclude(r program.Rule, b binding) { s.hold(b.fact(r.Head), 1) }

func (s *search) meet(newest int) {
	for _, r := range s.rules {
		for turn := range r.Body {
			s.join(r, 0, turn, newest, binding{})
		}
	}
}

// join lets the atoms of a body from the i-th on stand for facts: the one whose turn it is for the newest, those ahead of it for older ones only, those behind it for any found up to the newest. So no instance is met at two turns.
func (s *search) join(r program.Rule, i, turn, newest int, b binding) {
	if i == len(r.Body) {
		s.conclude(r, b)
		return
	}
	from, to := 0, newest+1
	if i == turn {
		from = newest
	} else if i < turn {
		to = newest
	}
	for _, f := range s.found[from:to] {
		if next, ok := b.match(r.Body[i], f); ok {
			s.join(r, i+1, turn, newest, next)
		}
	}
}
