// Package record writes what came and went, each record chained to the one ahead of it, and reads it again.
package record

import (
	"axiom/api"
	"axiom/digest"
	"axiom/encode"
)

// Content writes what came and what went, in the order in which it was handed in.
func Content(come, gone []api.Fact) string {
	return string(appendFacts(appendFacts(nil, come), gone))
}

func appendFacts(b []byte, facts []api.Fact) []byte {
	b = encode.AppendNumber(b, len(facts))
	for _, f := range facts {
		b = encode.AppendText(b, f.Pred)
		for _, name := range f.Args {
			b = encode.AppendText(b, name)
		}
	}
	return b
}

// Head gives the head behind a record of this content: it hangs on all that was ahead.
func Head(ahead digest.Digest, content string) digest.Digest {
	return digest.Of(string(ahead[:]) + content)
}

// Append writes a record behind a log; the head is the one behind this record.
func Append(log []byte, content string, head digest.Digest) []byte {
	return append(encode.AppendText(log, content), head[:]...)
}
