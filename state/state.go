// Package state keeps what an engine is made of, writes it as bytes, and reads it again.
package state

import (
	"axiom/api"
	"axiom/digest"
	"axiom/facts"
	"axiom/follow"
	"axiom/program"
)

// State is a program, what is given and what holds, and the head of the log.
type State struct {
	Program program.Program
	Given   map[string]*facts.Given
	Holds   map[string]*facts.Holds
	Head    digest.Digest
}

// Make works out what holds; false, if more is given or holds than may.
func Make(p program.Program, given map[string]*facts.Given, head digest.Digest) (State, bool) {
	if facts.Total(given) > api.MaxFacts {
		return State{}, false
	}
	holds, ok := follow.Model(p, given)
	if !ok {
		return State{}, false
	}
	return State{p, given, holds, head}, true
}
