// Package axiom: what follows from facts by rules, kept up as facts come and go, and written down so that it can be taken up again: see DOC.md.
package axiom

import (
	"axiom/api"
	"axiom/digest"
	"axiom/facts"
	"axiom/program"
	"axiom/record"
	"axiom/state"
)

// Check tells whether a text is a program, and writes it in its plain form (P3).
func Check(text string) (string, api.Errno, int) {
	p, e, at := program.Read(text)
	return p.Plain, e, at
}

// Engine is a program with facts, and the records of what came and went.
type Engine struct {
	state state.State
	log   []byte
}

// New makes an engine (P4).
func New(text string) (*Engine, api.Errno, int) {
	p, e, at := program.Read(text)
	if e != api.OK {
		return nil, e, at
	}
	first, ok := state.Make(p, facts.NoneGiven(p.Preds()), digest.Of(p.Plain))
	if !ok {
		return nil, api.ErrFull, 0
	}
	return &Engine{state: first}, api.OK, 0
}

// Apply lets facts come and go (P5).
func (e *Engine) Apply(come []api.Fact, gone []api.Fact) api.Errno {
	if len(come)+len(gone) > api.MaxChange {
		return api.ErrMany
	}
	given, ok := e.changed(come, gone)
	if !ok {
		return api.ErrFact
	}
	content := record.Content(come, gone)
	next, ok := state.Make(e.state.Program, given, record.Head(e.state.Head, content))
	if !ok {
		return api.ErrFull
	}
	e.state = next
	e.log = record.Append(e.log, content, next.Head)
	return api.OK
}

// changed gives what is given behind a change, and leaves what is given now as it is; false, if one is no fact of the program.
func (e *Engine) changed(come, gone []api.Fact) (map[string]*facts.Given, bool) {
	given := facts.CopyGiven(e.state.Given)
	for _, f := range come {
		r, ok := e.row(f)
		if !ok {
			return nil, false
		}
		given[f.Pred].Come(r)
	}
	for _, f := range gone {
		r, ok := e.row(f)
		if !ok {
			return nil, false
		}
		given[f.Pred].Leave(r)
	}
	return given, true
}

// row gives the names of a fact, if it is one of the program.
func (e *Engine) row(f api.Fact) (facts.Row, bool) {
	h, ok := e.state.Holds[f.Pred]
	if !ok {
		return facts.Row{}, false
	}
	return h.Row(f.Args)
}

// Ask tells how a fact stands (P6).
func (e *Engine) Ask(f api.Fact) (api.Truth, api.Errno) {
	r, ok := e.row(f)
	if !ok {
		return api.Truth{}, api.ErrFact
	}
	given, holds := e.state.Given[f.Pred], e.state.Holds[f.Pred]
	return api.Truth{Given: given.Has(r), Holds: holds.Has(r), Count: holds.Count(r)}, api.OK
}

// All tells what holds of a predicate (P7).
func (e *Engine) All(pred string) ([]api.Fact, api.Errno) {
	h, ok := e.state.Holds[pred]
	if !ok {
		return nil, api.ErrFact
	}
	return h.Facts(), api.OK
}

// Export writes an engine as bytes (P8).
func (e *Engine) Export() string { return e.state.Bytes() }

// Import makes an engine of bytes (P9).
func Import(s string) (*Engine, api.Errno) {
	taken, ok := state.Read(s)
	if !ok {
		return nil, api.ErrBytes
	}
	return &Engine{state: taken}, api.OK
}

// Log tells what came and went, as bytes (P10).
func (e *Engine) Log() string { return string(e.log) }

// Replay makes an engine of an export and a log, as far as it is whole (P11).
func Replay(export string, log string) (*Engine, int, api.Errno) {
	e, err := Import(export)
	if err != api.OK {
		return nil, 0, err
	}
	place := 0
	for place < len(log) {
		size, ok := e.redo(log[place:])
		if !ok {
			return e, place, api.ErrTorn
		}
		place += size
	}
	return e, place, api.OK
}

// redo goes through the record that a log begins with, and gives its size; false, if that can't be done, and then nothing has changed.
func (e *Engine) redo(log string) (int, bool) {
	content, size, ok := record.First(log, e.state.Head)
	if !ok {
		return 0, false
	}
	come, gone, ok := record.Facts(content, e.state.Program.Preds())
	if !ok || e.Apply(come, gone) != api.OK {
		return 0, false
	}
	return size, true
}
