package program

import (
	"reflect"
	"slices"
	"testing"
	"unsafe"

	"axiom/api"
)

func TestReadRules(t *testing.T) {
	p, e, at := Read("p(a). p(X) :-\nq(X, b1), p(X).")
	want := Program{
		Plain: "p(a).p(X):-q(X,b1),p(X).",
		Rules: []Rule{
			{Head: Atom{0, "p", []Term{{Name, "a"}}}},
			{
				Head: Atom{6, "p", []Term{{Variable, "X"}}},
				Body: []Atom{{14, "q", []Term{{Variable, "X"}, {Name, "b1"}}}, {24, "p", []Term{{Variable, "X"}}}},
			},
		},
	}
	if e != api.OK || at != 0 || !reflect.DeepEqual(p, want) {
		t.Errorf("Read = %v, %d, %d, want %v", p, e, at, want)
	}
}

func TestReadRefused(t *testing.T) {
	for _, text := range []string{"p(a", "p(a,b,c,d).", "p(a).p(a,b).", "p(X).", string(make([]byte, api.MaxText+1))} {
		if p, e, _ := Read(text); e == api.OK || !reflect.DeepEqual(p, Program{}) {
			t.Errorf("Read(%.20q) = %v, %d, want an error and no program", text, p, e)
		}
	}
}

func TestPreds(t *testing.T) {
	p, _, _ := Read("q(a,b). b1(X):-né(X,X,X),q(X,X). b(a):-a(b).")
	want := []Pred{{"a", 1}, {"b", 1}, {"b1", 1}, {"né", 3}, {"q", 2}}
	if got := p.Preds(); !slices.Equal(got, want) {
		t.Errorf("Preds = %v, want %v", got, want)
	}
	if got := (Program{}).Preds(); len(got) != 0 {
		t.Errorf("Preds of no rules = %v", got)
	}
}

// TestReadKeepsNothing writes over the bytes of the text behind the call.
func TestReadKeepsNothing(t *testing.T) {
	text := []byte("p(X):-q(X,a).")
	p, _, _ := Read(unsafe.String(&text[0], len(text)))
	want, _, _ := Read("p(X):-q(X,a).")
	for i := range text {
		text[i] = 'z'
	}
	if !reflect.DeepEqual(p, want) {
		t.Errorf("Read = %v, want %v", p, want)
	}
}
