package follow

import (
	"strconv"
	"strings"
	"testing"

	"axiom/api"
	"axiom/facts"
	"axiom/program"
)

// modelOf takes facts as texts: a predicate and names.
func modelOf(t *testing.T, text string, given ...string) (map[string]*facts.Holds, bool) {
	t.Helper()
	p, err, at := program.Read(text)
	if err != api.OK {
		t.Fatalf("Read(%q) = %d, %d", text, err, at)
	}
	tables := facts.NoneGiven(p.Preds())
	for _, f := range given {
		words := strings.Fields(f)
		r, ok := tables[words[0]].Row(words[1:])
		if !ok {
			t.Fatalf("%s is no fact of %q", f, text)
		}
		tables[words[0]].Come(r)
	}
	return Model(p, tables)
}

func wantCounts(t *testing.T, holds map[string]*facts.Holds, want map[string]int) {
	t.Helper()
	if n := facts.Total(holds); n != len(want) {
		t.Errorf("%d facts hold, want %d", n, len(want))
	}
	for f, count := range want {
		words := strings.Fields(f)
		h := holds[words[0]]
		r, _ := h.Row(words[1:])
		if !h.Has(r) || h.Count(r) != count {
			t.Errorf("%s: holds is %v, the count %d, want %d", f, h.Has(r), h.Count(r), count)
		}
	}
}

func TestModelCounts(t *testing.T) {
	holds, ok := modelOf(t, "path(X,Y):-edge(X,Y). path(X,Z):-path(X,Y),path(Y,Z).", "edge a b", "edge b c", "edge c a")
	if !ok {
		t.Fatal("the model is too great")
	}
	want := map[string]int{"edge a b": 0, "edge b c": 0, "edge c a": 0}
	for _, x := range []string{"a", "b", "c"} {
		for _, y := range []string{"a", "b", "c"} {
			want["path "+x+" "+y] = 3 // over each of the three
		}
	}
	for _, f := range []string{"path a b", "path b c", "path c a"} {
		want[f]++
	}
	wantCounts(t, holds, want)
}

func TestModelOfTerms(t *testing.T) {
	holds, _ := modelOf(t, "p(b,X,a):-q(X,X),q(X,a). p(c,c,c). p(c,c,c).", "q a a", "q a b", "q b b", "q c c", "q c a")
	wantCounts(t, holds, map[string]int{"q a a": 0, "q a b": 0, "q b b": 0, "q c c": 0, "q c a": 0, "p b a a": 1, "p b c a": 1, "p c c c": 2})
}

// TestModelOfVariables: those that begin alike are different ones.
func TestModelOfVariables(t *testing.T) {
	holds, _ := modelOf(t, "p(X1,X,Xé):-q(X,X1,Xé).", "q a b c")
	wantCounts(t, holds, map[string]int{"q a b c": 0, "p b a c": 1})
}

// TestModelSixVariables: as many as a body has room for.
func TestModelSixVariables(t *testing.T) {
	holds, _ := modelOf(t, "p(X,W):-q(X,Y,Z),q(U,V,W).", "q a b c", "q d e f")
	wantCounts(t, holds, map[string]int{"q a b c": 0, "q d e f": 0, "p a c": 1, "p a f": 1, "p d c": 1, "p d f": 1})
}

func TestModelLimit(t *testing.T) {
	var given []string
	for i := range 14 {
		given = append(given, "m n"+strconv.Itoa(i))
	}
	for i := range 18 {
		given = append(given, "k n"+strconv.Itoa(i))
	}
	const text = "s(X,Y):-m(X),m(Y). k(z):-l(z). l(z):-l(z)."
	if _, ok := modelOf(t, text, given...); ok {
		t.Error("14, 196 and 18 facts hold")
	}
	holds, ok := modelOf(t, text, given[1:]...)
	if !ok || facts.Total(holds) != api.MaxModel {
		t.Errorf("Model = %v, %d facts, want %d", ok, facts.Total(holds), api.MaxModel)
	}
	if holds, ok := modelOf(t, text, append(given[1:], "k x")...); ok || holds != nil {
		t.Error("one fact more holds")
	}
}
