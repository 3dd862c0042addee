package axiom_test

import (
	"math/rand"
	"strings"
	"testing"
	"unsafe"

	"axiom/api"
	"axiom/axiom"
)

const pathText = "path(X,Y) :- edge(X,Y). path(X,Z) :- path(X,Y), edge(Y,Z)."

func wantPlain(t *testing.T, text, plain string) {
	t.Helper()
	if s, e, at := axiom.Check(text); s != plain || e != api.OK || at != 0 {
		t.Errorf("Check(%.80q) = %q, %d, %d, want %q, OK, 0", text, s, e, at, plain)
	}
}

func wantFault(t *testing.T, text string, want api.Errno, place int) {
	t.Helper()
	if s, e, at := axiom.Check(text); s != "" || e != want || at != place {
		t.Errorf("Check(%.80q) = %q, %d, %d, want nothing, %d, %d", text, s, e, at, want, place)
	}
}

type fault struct {
	text string
	e    api.Errno
	at   int
}

func wantFaults(t *testing.T, faults []fault) {
	t.Helper()
	for _, f := range faults {
		wantFault(t, f.text, f.e, f.at)
	}
}

func TestP3Examples(t *testing.T) {
	wantPlain(t, pathText, "path(X,Y):-edge(X,Y).path(X,Z):-path(X,Y),edge(Y,Z).")
	wantPlain(t, "", "")
	wantPlain(t, "né(X) :- né(X).", "né(X):-né(X).")
	wantFaults(t, []fault{
		{"p(X) :- q(Y).", api.ErrSafe, 0},
		{"p(a). p(a,b).", api.ErrArity, 6},
		{"p(a)", api.ErrForm, 4},
		{"p(a). q(B :- r(B).", api.ErrForm, 10},
		{"p(abcdefg).", api.ErrForm, 2},
	})
}

func TestP3Text(t *testing.T) {
	wantPlain(t, "p(a)."+strings.Repeat("\n", api.MaxText-5), "p(a).")
	wantPlain(t, strings.Repeat(" ", api.MaxText), "")
	wantFaults(t, []fault{
		{strings.Repeat(" ", api.MaxText+1), api.ErrLong, 0},
		{"p(a)." + strings.Repeat(" ", api.MaxText-4), api.ErrLong, 0},
		{"p(" + strings.Repeat("\xff", api.MaxText-1), api.ErrLong, 0},
		{"p(" + strings.Repeat("\xff", api.MaxText-2), api.ErrForm, 2},
		// MaxText counts bytes: 300 code points of two bytes are as many as may be.
		{strings.Repeat("é", api.MaxText/2), api.ErrForm, 0},
		{strings.Repeat("é", api.MaxText/2) + ".", api.ErrLong, 0},
		{"p(X) :- q(Y). " + strings.Repeat("p(a). ", 100), api.ErrLong, 0},
	})
}

func TestP3Names(t *testing.T) {
	for _, name := range []string{"a", "z", "abcdef", "z09az9", "ààà", "à", "÷", "éééééé", "\u3000", "\u2028a", "\ufffd", "\ufffd\ufffd1", "\ufeff", "\U0010ffff", "\uffff\ue000\ud7ff"} {
		text := name + "(" + name + ",V):-" + name + "(" + name + ",V)."
		wantPlain(t, text, text)
	}
	for _, v := range []string{"A", "Z", "Abcdef", "X00000", "Xé9\ufffd\U0010ffffz"} {
		text := "p(" + v + "):-p(" + v + ")."
		wantPlain(t, text, text)
	}
}

func TestP3NoNames(t *testing.T) {
	for _, bad := range []string{
		"abcdefg", "ééééééé", "a123456", "Abcdefg", "Xéééééé", "0", "0a", "_", "-", "+", "'a'", "\x00", "\t", "\r", "\v", "\x7f", "%",
		"\u0080", "\u00a0", "\u00aa", "\u00b5", "\u00c9", "\u00df",
		"\x80", "\xc3", "\xff", "\xc3\xc3", "\xe0\xa0", "\xef\xbf", "\xf0\x9f\x98", // no whole code point
		"\xed\xa0\x80", "\xc1\xa1", "\xe0\x81\xa1", "\xf4\x90\x80\x80", // surrogate, too long forms, above U+10FFFF
	} {
		wantFault(t, "p("+bad+").", api.ErrForm, 2)
		wantFault(t, "p(a, "+bad+").", api.ErrForm, 5)
		wantFault(t, " \n"+bad+"(a).", api.ErrForm, 2)
		wantFault(t, "p(a)."+bad, api.ErrForm, 5)
	}
	wantFaults(t, []fault{
		{"p(a_).", api.ErrForm, 3},
		{"p(é\xc3).", api.ErrForm, 4},
		{"p(\ufffd\xef\xbf).", api.ErrForm, 5},
		{"p(abcdef\xff).", api.ErrForm, 8},
		{"p(abcdefG).", api.ErrForm, 8},
		{"p(abcdefg\xff).", api.ErrForm, 2},
		{"p(XY):-q(XY).", api.ErrForm, 3},
		{"p(aX):-q(aX).", api.ErrForm, 3},
		{"p(XÉ).", api.ErrForm, 3},
		{"P(a).", api.ErrForm, 0},
		{"p(a):-Q(a).", api.ErrForm, 6},
	})
}

func TestP3Blanks(t *testing.T) {
	tokens := []string{"p", "(", "X", ",", "a", ")", ":-", "q", "(", "X", ")", ",", "r", "(", "b", ")", ".", "p", "(", "a", ",", "a", ")", "."}
	plain := strings.Join(tokens, "")
	for _, blank := range []string{"", " ", "\n", "  \n\n "} {
		wantPlain(t, blank+strings.Join(tokens, blank)+blank, plain)
	}
	for _, no := range []string{"\t", "\r\n", "\u0085", "\u00a0", "\x00"} {
		wantFault(t, "p(a)."+no, api.ErrForm, 5)
		wantFault(t, "p"+no+"(a).", api.ErrForm, 1)
	}
	wantFaults(t, []fault{
		{"p(a): -q(a).", api.ErrForm, 4},
		{"p(a b).", api.ErrForm, 4},
		{"p(a\nb).", api.ErrForm, 4},
		{"p q(a).", api.ErrForm, 2},
		{"p(a) \n ", api.ErrForm, 7},
		{"p(a) \n :", api.ErrForm, 7},
	})
}

func TestP3Form(t *testing.T) {
	wantFaults(t, []fault{
		{".", api.ErrForm, 0}, {"(", api.ErrForm, 0}, {":-", api.ErrForm, 0}, {":-p(a).", api.ErrForm, 0}, {"X", api.ErrForm, 0},
		{"p", api.ErrForm, 1}, {"p.", api.ErrForm, 1}, {"p(", api.ErrForm, 2}, {"p()", api.ErrForm, 2}, {"p(a", api.ErrForm, 3},
		{"p(a,", api.ErrForm, 4}, {"p(,a).", api.ErrForm, 2}, {"p(a,).", api.ErrForm, 4}, {"p(a(b)).", api.ErrForm, 3}, {"p(a.", api.ErrForm, 3},
		{"p(a):-", api.ErrForm, 6}, {"p(a):-.", api.ErrForm, 6}, {"p(a):-X.", api.ErrForm, 6}, {"p(a):-q.", api.ErrForm, 7},
		{"p(a):-q(a),", api.ErrForm, 11}, {"p(a):-q(a),,q(a).", api.ErrForm, 11}, {"p(a):-,q(a).", api.ErrForm, 6},
		{"p(a)..", api.ErrForm, 5}, {"p(a),q(a).", api.ErrForm, 4}, {"p(a)q(a).", api.ErrForm, 4}, {"p(a):-q(a):-q(a).", api.ErrForm, 10},
	})
}

// The grammar over one letter a token (n a name, v a variable, i the sign :-), as states: the oracle for TestP3EveryShortText.
var goesOn = []map[byte]int{
	0: {'n': 1},
	1: {'(': 2},
	2: {'n': 3, 'v': 3},
	3: {',': 2, ')': 4},
	4: {'.': 0, 'i': 5},
	5: {'n': 6},
	6: {'(': 7},
	7: {'n': 8, 'v': 8},
	8: {',': 7, ')': 9},
	9: {',': 5, '.': 0},
}

var spelt = map[byte]string{'n': "né", 'v': "Xa", 'i': ":-", '(': "(", ')': ")", ',': ",", '.': ".", 'w': "abcdefg", 'c': ":", 'b': "\xff"}

// TestP3EveryShortText goes through all that can be gone on with, up to some tokens, and tries every token behind it.
func TestP3EveryShortText(t *testing.T) {
	tried := 0
	var walk func(text string, state, left int)
	walk = func(text string, state, left int) {
		tried++
		_, e, at := axiom.Check(text)
		if whole := state == 0; whole != (e != api.ErrForm) || !whole && at != len(text) {
			t.Fatalf("Check(%q) = %d, %d: whole is %v", text, e, at, whole)
		}
		if left == 0 {
			return
		}
		for k, s := range spelt {
			if next, ok := goesOn[state][k]; ok {
				walk(text+s+" ", next, left-1)
			} else {
				wantFault(t, text+s+" ", api.ErrForm, len(text))
			}
		}
	}
	walk("", 0, 13)
	if tried < 500 {
		t.Errorf("only %d texts were tried", tried)
	}
}

func TestP3Many(t *testing.T) {
	eight := strings.Repeat("p(a).", api.MaxRules)
	six := "a(x):-b(x),c(x).d(x):-e(x),f(x)."
	for _, text := range []string{eight, six, six + "f(x):-a(x),f(x).", "p(a):-q(a),q(a).", "p(X,Y,Z):-q(X,Y,Z).", "p(a):-p(p),p(q)."} {
		wantPlain(t, text, text)
	}
	wantFaults(t, []fault{
		{eight + "\n p(a).", api.ErrMany, 42},
		{eight + eight, api.ErrMany, 40},
		{" p(a):-q(a),q(a),q(a).", api.ErrMany, 1},
		{"p(a).p(a):-q(a),q(a),q(a),q(a).", api.ErrMany, 5},
		{"p(a,b,c,d).", api.ErrMany, 0},
		{"p(a). q(a):-r(a),s(a,X,b,Y).", api.ErrMany, 6},
		{six + "g(x).", api.ErrMany, 32},
		{six + "a(x). f(x):-a(x),g(x).h(x).", api.ErrMany, 38},
		{"a(x).b(x).c(x).d(x).e(x).f(x):-g(x),h(x).", api.ErrMany, 25},
		// Of several rules above a limit the first counts, whatever the limit.
		{six + "p(a).p(a,b,c,d).", api.ErrMany, 32},
		{"p(a,b,c,d).p(a):-q(a),q(a),q(a).", api.ErrMany, 0},
		{"p(a):-q(a),q(a),q(a).p(a,b,c,d).", api.ErrMany, 0},
		{strings.Repeat("p(a).", 7) + "p(a,b,c,d)." + eight, api.ErrMany, 35},
	})
}

func TestP3Arity(t *testing.T) {
	wantPlain(t, "p(p,q):-q(p).", "p(p,q):-q(p).") // a name as a term is no predicate
	wantFaults(t, []fault{
		{"p(a):-p(a,b).", api.ErrArity, 6},
		{"p(X):-q(X),q(X,X).", api.ErrArity, 11},
		{"p(a,b,c).\n p(a,b).", api.ErrArity, 11},
		{"p(a).q(a).q(a,b).p(a,b).", api.ErrArity, 10},
		{"p(a).q(a,b).p(b).q(a,b,c).p(a,b).", api.ErrArity, 17},
		{"p(a).p(a,b).p(a).", api.ErrArity, 5},
	})
}

func TestP3Safe(t *testing.T) {
	for _, text := range []string{"p(X,Y):-q(X),r(Y).", "p(X,X):-q(a),r(X).", "p(a):-q(X),r(Y).", "p(X,x):-q(X,Y).", "p(Xa):-q(Xa)."} {
		wantPlain(t, text, text)
	}
	wantFaults(t, []fault{
		{"p(X).", api.ErrSafe, 0},
		{"p(a). \n p(X).", api.ErrSafe, 8},
		{"p(X,Y):-q(X),r(X).", api.ErrSafe, 0},
		{"p(X,Y):-q(Y).", api.ErrSafe, 0},
		{"p(X):-q(x).", api.ErrSafe, 0},
		{"p(X):-q(X1).", api.ErrSafe, 0},
		{"p(Xa):-q(X).", api.ErrSafe, 0},
		{"p(X):-q(X).p(Y):-q(X).p(Z).", api.ErrSafe, 11},
	})
}

// TestP3Order has texts to which several errors apply: the one named first is answered, wherever it stands.
func TestP3Order(t *testing.T) {
	wantFaults(t, []fault{
		{strings.Repeat("p(a,b,c,d).p(X).", 40), api.ErrLong, 0},
		{"p(X).p(a,b).q(a,b,c,d).p", api.ErrForm, 24},
		{"p(a,b,c,d). \xff", api.ErrForm, 12},
		{"p(X).p(a,b).q(a,b,c,d).", api.ErrMany, 12},
		{"p(X).p(a,b).q(a).", api.ErrArity, 5},
		{"p(X).q(a).q(a,b).", api.ErrArity, 10},
		{"p(a,b,c).p(a,b,c,d).", api.ErrMany, 9},
	})
}

// someTexts are made of pieces that often fit, in an order that is the same at every run.
func someTexts(n int) []string {
	pieces := []string{"p", "q", "né", "abcdef", "X", "Y", "(", "(", ")", ")", ",", ".", ":-", " ", "\n", "p(a).", "p(X):-", "q(X)", "q(a,Y)", "a,b", "1", ":", "É", "\xff", "\xc3", "\ufffd"}
	random := rand.New(rand.NewSource(3))
	texts := make([]string, n)
	for i := range texts {
		for range random.Intn(14) {
			texts[i] += pieces[random.Intn(len(pieces))]
		}
	}
	return texts
}

func wantSound(t *testing.T, text string) {
	t.Helper()
	s, e, at := axiom.Check(text)
	if s2, e2, at2 := axiom.Check(text); s != s2 || e != e2 || at != at2 {
		t.Fatalf("P2: Check(%q) answers %q, %d, %d, and then %q, %d, %d", text, s, e, at, s2, e2, at2)
	}
	if e == api.OK {
		if strings.ContainsAny(s, " \n") || s != strings.NewReplacer(" ", "", "\n", "").Replace(text) || at != 0 {
			t.Fatalf("P3: Check(%q) = %q, OK, %d", text, s, at)
		}
		wantPlain(t, s, s)
		return
	}
	if s != "" || e < api.ErrLong || e > api.ErrSafe || at < 0 || at > len(text) {
		t.Fatalf("P1: Check(%q) = %q, %d, %d", text, s, e, at)
	}
	if e == api.ErrForm { // what stands ahead of the fault can be gone on with
		if _, e2, at2 := axiom.Check(text[:at]); e2 == api.ErrForm && at2 != at {
			t.Fatalf("P3: Check(%q) = ErrForm, %d, but of what is ahead of it ErrForm, %d", text, at, at2)
		}
	}
}

func TestP1P2SomeTexts(t *testing.T) {
	for _, text := range someTexts(30000) {
		wantSound(t, text)
	}
}

func TestP1EveryTwoBytes(t *testing.T) {
	for i := range 1 << 16 {
		two := string([]byte{byte(i >> 8), byte(i)})
		wantSound(t, "p("+two+").")
	}
	wantFault(t, strings.Repeat("p(", 5000000), api.ErrLong, 0)
}

// TestP2NothingShared: the plain form of a text that is one already is new memory all the same.
func TestP2NothingShared(t *testing.T) {
	text := strings.Clone("p(a).")
	s, _, _ := axiom.Check(text)
	if s != text || unsafe.StringData(s) == unsafe.StringData(text) {
		t.Errorf("Check(%q) = %q, in the memory of the text", text, s)
	}
}

// TestP2CallsAhead: what was asked ahead has no say in an answer.
func TestP2CallsAhead(t *testing.T) {
	texts := []string{"p(a).", "p(a,b).", "q(X).", "p(", "a(x):-b(x),c(x).d(x):-e(x),f(x).", "g(x):-h(x)."}
	type answer struct {
		s  string
		e  api.Errno
		at int
	}
	first := map[string]answer{}
	for _, text := range texts {
		s, e, at := axiom.Check(text)
		first[text] = answer{s, e, at}
	}
	for i := range texts {
		text := texts[len(texts)-1-i]
		s, e, at := axiom.Check(text)
		if (answer{s, e, at}) != first[text] {
			t.Errorf("Check(%q) = %q, %d, %d, but it was %v", text, s, e, at, first[text])
		}
	}
}

func FuzzCheck(f *testing.F) {
	f.Add(pathText)
	f.Add("p(\xc3). né(X):-")
	f.Fuzz(wantSound)
}
