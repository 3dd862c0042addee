package state

import (
	"axiom/api"
	"axiom/digest"
	"axiom/encode"
	"axiom/facts"
	"axiom/program"
)

const (
	maxNames = api.MaxModel * api.MaxPlaces
	maxCount = api.MaxRules * api.MaxModel * api.MaxModel // a rule and a fact for each of the two atoms of its body tell an instance
)

// Read makes a state of bytes, if they are just those that it is written as (P9). What is read is the program and what was given: from these the state is made anew, and all else is right if it is written as the same bytes again.
func Read(s string) (State, bool) {
	if len(s) < digest.Size {
		return State{}, false
	}
	cut := len(s) - digest.Size
	r := encode.NewReader(s[:cut])
	p, e, _ := program.Read(r.Text())
	if e != api.OK {
		return State{}, false
	}
	given, ok := readGiven(r, p.Preds())
	if !ok {
		return State{}, false
	}
	made, ok := Make(p, given, digest.Digest([]byte(s[cut:])))
	if !ok || made.Bytes() != s {
		return State{}, false
	}
	return made, true
}

// readGiven goes over the facts that hold, and gives those that were given.
func readGiven(r *encode.Reader, preds []program.Pred) (map[string]*facts.Given, bool) {
	names := readNames(r)
	tables := facts.NoneGiven(preds)
	for _, pred := range preds {
		table := tables[pred.Name]
		for range r.Number(api.MaxModel) {
			isGiven := r.Number(1) == 1
			r.Number(maxCount)
			row, ok := table.Row(readFact(r, names, pred.Places))
			if !ok {
				return nil, false
			}
			if isGiven {
				table.Come(row)
			}
		}
	}
	return tables, !r.Failed()
}

func readNames(r *encode.Reader) []string {
	names := make([]string, r.Number(maxNames))
	for i := range names {
		names[i] = r.Text()
	}
	return names
}

// readFact gives the names of a fact; empty ones, if they could not be read.
func readFact(r *encode.Reader, names []string, places int) []string {
	list := make([]string, places)
	for i := range list {
		if at := r.Number(len(names) - 1); !r.Failed() {
			list[i] = names[at]
		}
	}
	return list
}
