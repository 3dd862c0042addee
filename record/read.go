package record

import (
	"strings"

	"axiom/api"
	"axiom/digest"
	"axiom/encode"
	"axiom/program"
)

// First gives the content of the record that a log begins with, and the size of the whole record; false, if none is whole there, or its digest does not fit the head ahead of it.
func First(log string, ahead digest.Digest) (string, int, bool) {
	r := encode.NewReader(log)
	content := r.Text()
	if r.Failed() {
		return "", 0, false
	}
	head := Head(ahead, content)
	if !strings.HasPrefix(r.Rest(), string(head[:])) {
		return "", 0, false
	}
	return content, len(log) - len(r.Rest()) + digest.Size, true
}

// Facts gives what came and what went by a content; false, if it is none. How many names a fact has is not written, so the predicates must tell. Whether all are facts of the program is left to who applies them.
func Facts(content string, preds []program.Pred) (come, gone []api.Fact, ok bool) {
	r := encode.NewReader(content)
	come = readFacts(r, preds)
	gone = readFacts(r, preds)
	if r.Failed() || r.Rest() != "" {
		return nil, nil, false
	}
	return come, gone, true
}

func readFacts(r *encode.Reader, preds []program.Pred) []api.Fact {
	facts := make([]api.Fact, r.Number(api.MaxChange))
	for i := range facts {
		pred := r.Text()
		names := make([]string, places(preds, pred))
		for k := range names {
			names[k] = r.Text()
		}
		facts[i] = api.Fact{Pred: pred, Args: names}
	}
	return facts
}

// places is 0 for a predicate that there is not: no fact has so few, so what is read of it is refused later.
func places(preds []program.Pred, name string) int {
	for _, p := range preds {
		if p.Name == name {
			return p.Places
		}
	}
	return 0
}
