package state

import (
	"slices"

	"axiom/encode"
	"axiom/program"
)

// Bytes writes the state, always as the same bytes (P8).
func (s State) Bytes() string {
	names := s.names()
	b := encode.AppendText(nil, s.Program.Plain)
	b = encode.AppendNumber(b, len(names))
	for _, name := range names {
		b = encode.AppendText(b, name)
	}
	for _, pred := range s.Program.Preds() {
		b = s.appendFacts(b, pred, names)
	}
	return string(append(b, s.Head[:]...))
}

// names gives the different names that stand in facts that hold, in the order of their bytes.
func (s State) names() []string {
	var names []string
	for _, pred := range s.Program.Preds() {
		for _, r := range s.Holds[pred.Name].Rows() {
			names = append(names, r[:pred.Places]...)
		}
	}
	slices.Sort(names)
	return slices.Compact(names)
}

func (s State) appendFacts(b []byte, pred program.Pred, names []string) []byte {
	given, holds := s.Given[pred.Name], s.Holds[pred.Name]
	b = encode.AppendNumber(b, holds.Len())
	for _, r := range holds.Rows() {
		b = encode.AppendNumber(b, flag(given.Has(r)))
		b = encode.AppendNumber(b, holds.Count(r))
		for _, name := range r[:pred.Places] {
			at, _ := slices.BinarySearch(names, name)
			b = encode.AppendNumber(b, at)
		}
	}
	return b
}

func flag(is bool) int {
	if is {
		return 1
	}
	return 0
}
