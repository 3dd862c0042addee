// Package axiom: what follows from facts by rules, kept up as facts come and go, and written down so that it can be taken up again: see DOC.md.
package axiom

import (
	"axiom/api"
	"axiom/program"
)

// Check tells whether a text is a program, and writes it in its plain form (P3).
func Check(text string) (string, api.Errno, int) {
	p, e, at := program.Read(text)
	return p.Plain, e, at
}

// Engine is a program with facts.
type Engine struct{}

// New makes an engine (P4).
func New(text string) (*Engine, api.Errno, int) { return nil, api.OK, 0 }

// Apply lets facts come and go (P5).
func (e *Engine) Apply(come []api.Fact, gone []api.Fact) api.Errno { return api.OK }

// Ask tells how a fact stands (P6).
func (e *Engine) Ask(f api.Fact) (api.Truth, api.Errno) { return api.Truth{}, api.OK }

// All tells what holds of a predicate (P7).
func (e *Engine) All(pred string) ([]api.Fact, api.Errno) { return nil, api.OK }

// Export writes an engine as bytes (P8).
func (e *Engine) Export() string { return "" }

// Import makes an engine of bytes (P9).
func Import(s string) (*Engine, api.Errno) { return nil, api.OK }

// Log tells what came and went, as bytes (P10).
func (e *Engine) Log() string { return "" }

// Replay makes an engine of an export and a log, as far as it is whole (P11).
func Replay(export string, log string) (*Engine, int, api.Errno) { return nil, 0, api.OK }
