package program

// parser goes over tokens. Where it can't go on it stands still, so that the token it stands at is the place of the fault.
type parser struct {
	tokens []token
	next   int
}

func (p *parser) peek() token { return p.tokens[p.next] }

// take never passes the last token: that is the end or no token, and neither is ever asked for.
func (p *parser) take(kind tokenKind) bool {
	if p.peek().kind != kind {
		return false
	}
	p.next++
	return true
}

func (p *parser) rules() ([]Rule, bool) {
	var rules []Rule
	for p.peek().kind != kindEnd {
		r, ok := p.rule()
		if !ok {
			return nil, false
		}
		rules = append(rules, r)
	}
	return rules, true
}

func (p *parser) rule() (Rule, bool) {
	head, ok := p.atom()
	if !ok {
		return Rule{}, false
	}
	var body []Atom
	if p.take(kindIf) {
		if body, ok = p.atoms(); !ok {
			return Rule{}, false
		}
	}
	return Rule{head, body}, p.take(kindStop)
}

func (p *parser) atoms() ([]Atom, bool) {
	var atoms []Atom
	for {
		a, ok := p.atom()
		if !ok {
			return nil, false
		}
		atoms = append(atoms, a)
		if !p.take(kindComma) {
			return atoms, true
		}
	}
}

func (p *parser) atom() (Atom, bool) {
	pred := p.peek()
	if !p.take(kindName) || !p.take(kindOpen) {
		return Atom{}, false
	}
	terms, ok := p.terms()
	if !ok {
		return Atom{}, false
	}
	return Atom{pred.at, pred.text, terms}, p.take(kindClose)
}

func (p *parser) terms() ([]Term, bool) {
	var terms []Term
	for {
		t, ok := p.term()
		if !ok {
			return nil, false
		}
		terms = append(terms, t)
		if !p.take(kindComma) {
			return terms, true
		}
	}
}

func (p *parser) term() (Term, bool) {
	t := p.peek()
	switch {
	case p.take(kindName):
		return Term{Name, t.text}, true
	case p.take(kindVariable):
		return Term{Variable, t.text}, true
	}
	return Term{}, false
}
