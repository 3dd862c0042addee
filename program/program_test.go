package program

import (
	"reflect"
	"testing"

	"axiom/api"
)

func TestReadRules(t *testing.T) {
	p, e, at := Read("p(a). p(X) :-\nq(X, b1), p(X).")
	want := Program{
		Plain: "p(a).p(X):-q(X,b1),p(X).",
		Rules: []Rule{
			{Head: Atom{0, "p", []Term{{Name, "a"}}}},
			{
				Head: Atom{6, "p", []Term{{Variable, "X"}}},
				Body: []Atom{{14, "q", []Term{{Variable, "X"}, {Name, "b1"}}}, {24, "p", []Term{{Variable, "X"}}}},
			},
		},
	}
	if e != api.OK || at != 0 || !reflect.DeepEqual(p, want) {
		t.Errorf("Read = %v, %d, %d, want %v", p, e, at, want)
	}
}

func TestReadRefused(t *testing.T) {
	for _, text := range []string{"p(a", "p(a,b,c,d).", "p(a).p(a,b).", "p(X).", string(make([]byte, api.MaxText+1))} {
		if p, e, _ := Read(text); e == api.OK || !reflect.DeepEqual(p, Program{}) {
			t.Errorf("Read(%.20q) = %v, %d, want an error and no program", text, p, e)
		}
	}
}
