package state

import (
	"strings"
	"testing"

	"axiom/api"
	"axiom/digest"
	"axiom/facts"
	"axiom/program"
)

func programOf(t *testing.T, text string) program.Program {
	t.Helper()
	p, err, at := program.Read(text)
	if err != api.OK {
		t.Fatalf("Read(%q) = %d, %d", text, err, at)
	}
	return p
}

func headOf(s string) digest.Digest { return digest.Digest([]byte(s)) }

func TestMakeLimits(t *testing.T) {
	p := programOf(t, "p(X):-q(X).")
	given := facts.NoneGiven(p.Preds())
	for i := range api.MaxFacts {
		given["p"].Come(facts.Row{"n" + string(rune('a'+i/10)) + string(rune('a'+i%10))})
	}
	if s, ok := Make(p, given, digest.Digest{}); !ok || s.Holds["p"].Len() != api.MaxFacts {
		t.Errorf("Make of %d facts = %v", api.MaxFacts, ok)
	}
	given["q"].Come(facts.Row{"naa"}) // no more holds, but one more is given
	if s, ok := Make(p, given, digest.Digest{}); ok || s.Given != nil || s.Holds != nil {
		t.Errorf("Make of %d facts = %v, %v", api.MaxFacts+1, s, ok)
	}
}

func TestBytesReadAgain(t *testing.T) {
	p := programOf(t, "q(X,k):-r(X).")
	given := facts.NoneGiven(p.Preds())
	given["r"].Come(facts.Row{"b"})
	given["q"].Come(facts.Row{"b", "k"})
	head := strings.Repeat("h", digest.Size)
	s, ok := Make(p, given, headOf(head))
	want := "\x0dq(X,k):-r(X)." + "\x02\x01b\x01k" + "\x01\x01\x01\x00\x01" + "\x01\x01\x00\x00" + head
	if !ok || s.Bytes() != want {
		t.Fatalf("Bytes = %q, %v, want %q", s.Bytes(), ok, want)
	}
	again, ok := Read(want)
	if !ok || again.Bytes() != want || again.Head != headOf(head) || !again.Given["q"].Has(facts.Row{"b", "k"}) || again.Holds["q"].Count(facts.Row{"b", "k"}) != 1 {
		t.Errorf("Read = %v, %v", again, ok)
	}
}

func TestReadNone(t *testing.T) {
	head := strings.Repeat("h", digest.Size)
	for _, s := range []string{"", head[1:], head, "\x00" + head, "\x00\x00\x00" + head, "\x05p(a)." + head, "\x05p(a).\x00\x00" + head, "\x06p(a). \x01\x01a\x01\x00\x01\x00" + head, "\x05p(a).\x01\x01a\x01\x00\x01\x01" + head} {
		if made, ok := Read(s); ok || made.Given != nil || made.Holds != nil || made.Program.Rules != nil || made.Head != (digest.Digest{}) {
			t.Errorf("Read(%q) = %v, %v, want none", s, made, ok)
		}
	}
}
