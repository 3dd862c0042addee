package axiom_test

import (
	"math/rand"
	"slices"
	"strconv"
	"strings"
	"testing"
	"unsafe"

	"axiom/api"
	"axiom/axiom"
)

// one makes a fact of a text: a predicate and names, with blanks between.
func one(text string) api.Fact {
	words := strings.Fields(text)
	return api.Fact{Pred: words[0], Args: words[1:]}
}

func list(texts ...string) []api.Fact {
	var l []api.Fact
	for _, s := range texts {
		l = append(l, one(s))
	}
	return l
}

// semi takes facts with ; between them.
func semi(s string) []api.Fact {
	var l []api.Fact
	for _, f := range strings.Split(s, ";") {
		if strings.TrimSpace(f) != "" {
			l = append(l, one(f))
		}
	}
	return l
}

// numbered makes n facts of one predicate with the names n00, n01 and so on.
func numbered(pred string, n int) []api.Fact {
	var l []api.Fact
	for i := range n {
		l = append(l, api.Fact{Pred: pred, Args: []string{"n" + strconv.Itoa(i/10) + strconv.Itoa(i%10)}})
	}
	return l
}

func engineOf(t *testing.T, text string) *axiom.Engine {
	t.Helper()
	e, err, at := axiom.New(text)
	if e == nil || err != api.OK || at != 0 {
		t.Fatalf("P4: New(%q) = %v, %d, %d, want an engine", text, e, err, at)
	}
	return e
}

func wantApply(t *testing.T, e *axiom.Engine, come, gone []api.Fact, want api.Errno) {
	t.Helper()
	if err := e.Apply(come, gone); err != want {
		t.Errorf("P5: Apply(%.300v, %.300v) = %d, want %d", come, gone, err, want)
	}
}

func allTexts(t *testing.T, e *axiom.Engine, pred string) []string {
	t.Helper()
	l, err := e.All(pred)
	if err != api.OK {
		t.Errorf("P7: All(%q) = %v, %d, want OK", pred, l, err)
	}
	var texts []string
	for _, f := range l {
		texts = append(texts, f.Pred+" "+strings.Join(f.Args, " "))
	}
	return texts
}

func wantAll(t *testing.T, e *axiom.Engine, pred string, want ...string) {
	t.Helper()
	if got := allTexts(t, e, pred); !slices.Equal(got, want) {
		t.Errorf("P7: All(%q) = %q, want %q", pred, got, want)
	}
}

func wantTruth(t *testing.T, e *axiom.Engine, fact string, given, holds bool, count int) {
	t.Helper()
	want := api.Truth{Given: given, Holds: holds, Count: count}
	if got, err := e.Ask(one(fact)); got != want || err != api.OK {
		t.Errorf("P6: Ask(%s) = %+v, %d, want %+v, OK", fact, got, err, want)
	}
}

func TestP4FaultsOfCheck(t *testing.T) {
	texts := append(someTexts(3000), pathText, "", "p(X) :- q(Y).", "p(a). p(a,b).", "p(a). q(B :- r(B).", "p(a,b,c,d).", strings.Repeat(" ", api.MaxText+1), strings.Repeat("p(a).", api.MaxRules+1))
	for _, text := range texts {
		_, want, place := axiom.Check(text)
		e, err, at := axiom.New(text)
		if err != want || at != place || (e != nil) != (want == api.OK) {
			t.Fatalf("P4: New(%q) = %v, %d, %d, want %d, %d", text, e, err, at, want, place)
		}
	}
}

func TestP4NothingGiven(t *testing.T) {
	e := engineOf(t, pathText)
	wantAll(t, e, "path")
	wantAll(t, e, "edge")
	wantTruth(t, e, "edge a b", false, false, 0)
	engineOf(t, "")
	e = engineOf(t, "p(a). p(b). p(a). q(X):-p(X). q(c).")
	wantAll(t, e, "p", "p a", "p b")
	wantAll(t, e, "q", "q a", "q b", "q c")
	wantTruth(t, e, "p a", false, true, 2)
	wantTruth(t, e, "q c", false, true, 1)
}

// Behind four facts of m: 200 facts hold with the one start, 201 with the other.
const (
	fullRules  = "t(Y,Z,X):-q(X,Y),q(Z,W). t(Z,Z,X):-m(X,Y,Z),q(X,Y). q(Y,U):-m(X,Y,Z),m(W,V,U). q(Z,Y):-q(Y,Z)."
	fullStart  = "m(b,d,d). m(b,c,c). m(h,f,i). m(c,e,g). "
	aboveStart = "m(i,b,f). m(h,g,i). m(i,e,g). m(f,a,b). "
)

func TestP4Full(t *testing.T) {
	e := engineOf(t, fullStart+fullRules)
	if n := len(allTexts(t, e, "m")) + len(allTexts(t, e, "q")) + len(allTexts(t, e, "t")); n != api.MaxModel {
		t.Errorf("P4: %d facts hold, want %d", n, api.MaxModel)
	}
	for _, text := range []string{aboveStart + fullRules, " " + aboveStart + fullRules, "m(a).m(b).m(c).m(d).m(e).m(f). r(X,Y):-m(X),m(Y). s(X,Y,Z):-r(X,Y),m(Z)."} {
		if e, err, at := axiom.New(text); e != nil || err != api.ErrFull || at != 0 {
			t.Errorf("P4: New(%q) = %v, %d, %d, want nil, ErrFull, 0", text, e, err, at)
		}
	}
}

func TestP5Path(t *testing.T) {
	e := engineOf(t, pathText)
	wantApply(t, e, list("edge a b", "edge b c", "edge a c"), nil, api.OK)
	wantTruth(t, e, "path a b", false, true, 1)
	wantTruth(t, e, "path a c", false, true, 2)
	wantTruth(t, e, "path b c", false, true, 1)
	wantTruth(t, e, "edge a b", true, true, 0)
	wantApply(t, e, nil, list("edge a c"), api.OK)
	wantTruth(t, e, "path a c", false, true, 1)
	wantApply(t, e, nil, list("edge a b"), api.OK)
	wantAll(t, e, "path", "path b c")
	wantAll(t, e, "edge", "edge b c")
}

func TestP5HeldUpByItself(t *testing.T) {
	e := engineOf(t, pathText)
	wantApply(t, e, list("edge a a"), nil, api.OK)
	wantTruth(t, e, "path a a", false, true, 2)
	wantApply(t, e, nil, list("edge a a"), api.OK)
	wantTruth(t, e, "path a a", false, false, 0)
	wantAll(t, e, "path")

	e = engineOf(t, "p(X):-q(X). q(X):-r(X). r(X):-p(X). s(X):-s(X). e(X,Y):-e(Y,X).")
	wantAll(t, e, "s")
	wantApply(t, e, semi("q a; s b; e c d"), nil, api.OK)
	wantTruth(t, e, "q a", true, true, 1)
	wantTruth(t, e, "p a", false, true, 1)
	wantTruth(t, e, "s b", true, true, 1)
	wantTruth(t, e, "e d c", false, true, 1)
	wantApply(t, e, nil, semi("q a; s b; e d c"), api.OK)
	for _, pred := range []string{"p", "q", "r", "s"} {
		wantAll(t, e, pred)
	}
	wantAll(t, e, "e", "e c d", "e d c")
	wantApply(t, e, nil, semi("e c d"), api.OK)
	wantAll(t, e, "e")
}

func TestP5ComeAndGo(t *testing.T) {
	e := engineOf(t, pathText)
	wantApply(t, e, nil, nil, api.OK)
	wantApply(t, e, semi("edge a b; edge a b; edge c d"), semi("edge c d; edge x y; edge c d"), api.OK)
	wantAll(t, e, "edge", "edge a b")
	wantApply(t, e, semi("edge a b"), semi("edge a b"), api.OK) // what was given ahead goes too
	wantAll(t, e, "edge")
	wantApply(t, e, semi("edge a b"), nil, api.OK)
	wantApply(t, e, semi("edge a b"), nil, api.OK)
	wantApply(t, e, nil, semi("edge a b"), api.OK) // given twice, it goes at once all the same
	wantAll(t, e, "edge")
}

func TestP5GivenAndFollows(t *testing.T) {
	e := engineOf(t, pathText+"edge(k,k).")
	wantApply(t, e, semi("path a b; edge a b; edge k k"), nil, api.OK)
	wantTruth(t, e, "path a b", true, true, 1)
	wantTruth(t, e, "edge k k", true, true, 1)
	wantApply(t, e, nil, semi("path a b; edge k k"), api.OK)
	wantTruth(t, e, "path a b", false, true, 1)
	wantTruth(t, e, "edge k k", false, true, 1)
	wantApply(t, e, semi("path a b"), semi("edge a b; path k k"), api.OK)
	wantTruth(t, e, "path a b", true, true, 0)
	wantTruth(t, e, "path k k", false, true, 2)
}

func TestP5MaxFacts(t *testing.T) {
	e := engineOf(t, "p(X):-p(X). q(X):-r(X).")
	p := numbered("p", api.MaxFacts+1)
	wantApply(t, e, p, nil, api.ErrFull)
	wantAll(t, e, "p")
	wantApply(t, e, p[:api.MaxFacts], nil, api.OK)
	wantApply(t, e, p[:api.MaxFacts], nil, api.OK) // the same once more is no more
	wantApply(t, e, p[api.MaxFacts:], nil, api.ErrFull)
	wantApply(t, e, list("q a"), nil, api.ErrFull) // all predicates count together
	wantApply(t, e, p, p[:1], api.OK)
	wantTruth(t, e, "p n00", false, false, 0)
	wantTruth(t, e, "p n40", true, true, 1)
	wantApply(t, e, list("q a", "r b"), p[1:3], api.OK)
	wantApply(t, e, list("q b"), nil, api.ErrFull) // it follows, but it would be given too
	if n := len(allTexts(t, e, "p")); n != api.MaxFacts-2 {
		t.Errorf("P5: %d facts of p hold, want %d", n, api.MaxFacts-2)
	}
	wantAll(t, e, "q", "q a", "q b")
}

func TestP5MaxModel(t *testing.T) {
	e := engineOf(t, "s(X,Y):-m(X),m(Y). u(X):-w(X).")
	wantApply(t, e, numbered("m", 14), nil, api.ErrFull) // 14 and 196
	wantApply(t, e, numbered("m", 13), nil, api.OK)      // 13 and 169
	wantApply(t, e, numbered("u", 19), nil, api.ErrFull)
	wantAll(t, e, "u")
	wantApply(t, e, numbered("u", 18), nil, api.OK)
	wantApply(t, e, list("w n01"), nil, api.ErrFull)
	wantApply(t, e, list("w n01"), list("u n01"), api.ErrFull) // what goes follows now
	wantTruth(t, e, "u n01", true, true, 0)
	wantTruth(t, e, "w n01", false, false, 0)
	wantApply(t, e, list("s n00 n00", "u n17"), nil, api.OK) // no more holds
	wantTruth(t, e, "s n00 n00", true, true, 1)
	wantApply(t, e, list("m x"), list("m n00", "s n00 n00"), api.OK)
	wantTruth(t, e, "s x x", false, true, 1)
	wantTruth(t, e, "s n00 n00", false, false, 0)
}

func TestP5MaxChange(t *testing.T) {
	e := engineOf(t, "p(X):-q(X).")
	same := slices.Repeat(list("p a"), api.MaxChange+1)
	none := api.Fact{}
	wantApply(t, e, same, nil, api.ErrMany)
	wantApply(t, e, nil, same, api.ErrMany)
	wantApply(t, e, same[:40], same[:25], api.ErrMany)
	wantApply(t, e, same[:1], same[:64], api.ErrMany)
	wantAll(t, e, "p")
	wantApply(t, e, same[:64], nil, api.OK)
	wantAll(t, e, "p", "p a")
	wantApply(t, e, same[:40], same[:24], api.OK)
	wantAll(t, e, "p")
	wantApply(t, e, nil, same[:64], api.OK)
	// Of several errors the one named first.
	wantApply(t, e, append(numbered("q", 64), none), nil, api.ErrMany)
	wantApply(t, e, append(numbered("q", 63), none), nil, api.ErrFact)
	wantApply(t, e, numbered("q", 63), []api.Fact{none}, api.ErrFact)
	wantApply(t, e, numbered("q", 64), nil, api.ErrFull)
	wantAll(t, e, "q")
}

// noFacts are none of a program with edge of two places and path of two.
func noFacts() []api.Fact {
	facts := []api.Fact{{}, {Pred: "edge"}, {Args: []string{"a", "b"}}, one("edge a"), one("edge a b c"), one("edge a b c d"), one("edg a b"), one("edge1 a b"), one("Edge a b"), one("a a b"), one("x a b"), one("X a b"), one("path(X,Y) a b")}
	for _, name := range []string{"", "A", "X", "1", "1a", "aB", "a-", "a b", " a", "a ", "a\n", "a,b", "a)", "abcdefg", "éééééé1", "É", "\u00df", "\xff", "a\xff", "\xc3", "é\xc3", "\xef\xbf", "\xed\xa0\x80", "a\x00", ":-", ".", "(", strings.Repeat("a", 100000)} {
		facts = append(facts, api.Fact{Pred: "edge", Args: []string{name, "a"}}, api.Fact{Pred: "edge", Args: []string{"a", name}}, api.Fact{Pred: name, Args: []string{"a", "a"}})
	}
	return facts
}

func TestP5P6NoFact(t *testing.T) {
	e := engineOf(t, pathText)
	wantApply(t, e, list("edge a b"), nil, api.OK)
	good := list("edge c d", "path e f")
	for _, f := range noFacts() {
		if truth, err := e.Ask(f); truth != (api.Truth{}) || err != api.ErrFact {
			t.Errorf("P6: Ask(%.80q) = %+v, %d, want zeros, ErrFact", f, truth, err)
		}
		for _, come := range [][]api.Fact{{f}, {f, good[0]}, {good[0], f}, {good[0], f, good[1]}} {
			wantApply(t, e, come, nil, api.ErrFact)
			wantApply(t, e, nil, come, api.ErrFact)
			wantApply(t, e, good, come, api.ErrFact)
			wantApply(t, e, come, list("edge a b"), api.ErrFact)
		}
	}
	wantAll(t, e, "edge", "edge a b")
	wantAll(t, e, "path", "path a b")
}

func TestP6Names(t *testing.T) {
	e := engineOf(t, "né(X) :- né(X). q(x) :- r(x).")
	for _, name := range []string{"a", "z", "abcdef", "z09az9", "à", "éééééé", "\u3000", "\ufffd", "\U0010ffff", "né", "q"} {
		wantApply(t, e, []api.Fact{{Pred: "né", Args: []string{name}}}, nil, api.OK)
		if truth, err := e.Ask(api.Fact{Pred: "né", Args: []string{name}}); truth != (api.Truth{Given: true, Holds: true, Count: 1}) || err != api.OK {
			t.Errorf("P6: Ask(né(%s)) = %+v, %d", name, truth, err)
		}
	}
	// r stands in a body alone, and is a predicate of the program all the same; the name in its place is not asked for.
	wantApply(t, e, list("r y"), nil, api.OK)
	wantAll(t, e, "q")
	wantApply(t, e, list("r x"), nil, api.OK)
	wantAll(t, e, "q", "q x")
}

func TestP6Counts(t *testing.T) {
	e := engineOf(t, "h(X):-m(X),m(Y). h(X):-m(X),m(Y). g(X,X):-m(X),m(X). g(X,Y):-m(X),m(Y). k(a):-m(X),m(Y). k(a). l(X,Y):-g(X,Y),g(Y,X).")
	wantTruth(t, e, "k a", false, true, 1)
	wantApply(t, e, list("m a", "m b", "m c"), nil, api.OK)
	wantTruth(t, e, "h b", false, true, 6)   // each of two rules that are alike, with each Y
	wantTruth(t, e, "g a a", false, true, 2) // two atoms that become one fact
	wantTruth(t, e, "g a b", false, true, 1) //
	wantTruth(t, e, "k a", false, true, 10)  // nine pairs of names, and by itself
	wantTruth(t, e, "l a b", false, true, 1) // one instance, though g(a,a) has the count 2
	wantTruth(t, e, "l a a", false, true, 1) // instances count, not the counts of their facts
	wantTruth(t, e, "m a", true, true, 0)    // given, by no instance
	wantTruth(t, e, "k b", false, false, 0)  // does not hold
	wantTruth(t, e, "l zz zz", false, false, 0)
	wantApply(t, e, nil, list("m c"), api.OK)
	wantTruth(t, e, "h b", false, true, 4)
	wantTruth(t, e, "k a", false, true, 5)
}

// TestP6Variables: variables that begin alike are different ones, and each rule has its own.
func TestP6Variables(t *testing.T) {
	e := engineOf(t, "p(X,X1):-q(X1,X). q(Xa,Xab):-r(Xab,Xa). p(X,X):-r(X,Xa).")
	wantApply(t, e, list("r a b"), nil, api.OK)
	wantAll(t, e, "q", "q b a")
	wantAll(t, e, "p", "p a a", "p a b")
	wantTruth(t, e, "p a b", false, true, 1)
}

func TestP7Order(t *testing.T) {
	e := engineOf(t, "e(X,Y):-e(X,Y). u(X):-u(X).")
	wantApply(t, e, semi("u b; u a; u ab; u a1; u é; u z; u \U0010ffff; u \ufffd; u aa; u ba; u à"), nil, api.OK)
	wantAll(t, e, "u", "u a", "u a1", "u aa", "u ab", "u b", "u ba", "u z", "u à", "u é", "u \ufffd", "u \U0010ffff")
	wantApply(t, e, semi("e b a; e a z; e ab a; e a b; e a ab; e a1 a; e é a; e a é"), nil, api.OK)
	wantAll(t, e, "e", "e a ab", "e a b", "e a z", "e a é", "e a1 a", "e ab a", "e b a", "e é a")
}

func TestP7NoPredicate(t *testing.T) {
	e := engineOf(t, pathText+"p(a).")
	for _, pred := range []string{"", "a", "q", "edg", "edges", "Path", "X", "path(", "p(a)", " p", "\xff", strings.Repeat("p", 100000)} {
		if l, err := e.All(pred); len(l) != 0 || err != api.ErrFact {
			t.Errorf("P7: All(%.40q) = %v, %d, want nothing, ErrFact", pred, l, err)
		}
	}
	if l, err := engineOf(t, "").All("p"); len(l) != 0 || err != api.ErrFact {
		t.Errorf("P7: All of no predicates = %v, %d", l, err)
	}
}

// TestP12Oracle holds engines against what the document's words give, over many programs and changes.
func TestP12Oracle(t *testing.T) {
	r := rand.New(rand.NewSource(12))
	names := []string{"a", "b", "c"}
	refused := 0
	for range 400 {
		o := oracle{someRules(r), map[string]bool{}}
		e := engineOf(t, o.text())
		facts := o.everyFact(names)
		wantLike(t, e, o, names)
		for range 6 {
			come, gone := someFacts(r, facts, r.Intn(8)), someFacts(r, facts, r.Intn(8))
			next, want := o.apply(come, gone)
			wantApply(t, e, list(come...), list(gone...), want)
			o = next
			wantLike(t, e, o, names)
		}
		come := someFacts(r, facts, api.MaxChange)
		next, want := o.apply(come, nil)
		wantApply(t, e, list(come...), nil, want)
		if want != api.OK {
			refused++
		}
		wantLike(t, e, next, names)
	}
	if refused < 10 {
		t.Errorf("only %d changes were refused", refused)
	}
}

// TestP12OneState: what is given tells what holds, whatever came and went in which order.
func TestP12OneState(t *testing.T) {
	r := rand.New(rand.NewSource(7))
	names := []string{"a", "b", "c", "d"}
	for range 150 {
		o := oracle{someRules(r), map[string]bool{}}
		facts := o.everyFact(names)
		last := someFacts(r, facts, 6)
		o, err := o.apply(last, nil)
		if err != api.OK {
			continue
		}
		e := engineOf(t, o.text())
		for range 5 {
			e.Apply(list(someFacts(r, facts, 5)...), list(someFacts(r, facts, 5)...))
		}
		for len(facts) > 0 { // all but the last go, in parts
			n := min(len(facts), 50)
			wantApply(t, e, nil, list(facts[:n]...), api.OK)
			facts = facts[n:]
		}
		r.Shuffle(len(last), func(i, k int) { last[i], last[k] = last[k], last[i] })
		for _, f := range last {
			wantApply(t, e, list(f), nil, api.OK)
		}
		wantLike(t, e, o, names)
	}
}

// TestP12More: what is given more lets no less hold.
func TestP12More(t *testing.T) {
	r := rand.New(rand.NewSource(8))
	for range 150 {
		o := oracle{someRules(r), map[string]bool{}}
		e := engineOf(t, o.text())
		facts := o.everyFact([]string{"a", "b", "c"})
		held := map[string]bool{}
		for range 8 {
			e.Apply(list(someFacts(r, facts, 2)...), nil)
			for pred := range o.places() {
				for _, f := range allTexts(t, e, pred) {
					held[f] = true
				}
			}
			for f := range held {
				if truth, _ := e.Ask(one(f)); !truth.Holds || !truth.Given && truth.Count == 0 {
					t.Fatalf("P12: %s held, and is %+v", f, truth)
				}
			}
		}
	}
}

// written makes a string whose bytes can be written over.
func written(s string) (string, []byte) {
	b := []byte(s)
	return unsafe.String(unsafe.SliceData(b), len(b)), b
}

// TestP2TextNotKept writes over what was handed in, the bytes of the strings too.
func TestP2TextNotKept(t *testing.T) {
	text, bytes := written("p(a). q(X,b) :- r(X).")
	e := engineOf(t, text)
	for i := range bytes {
		bytes[i] = 'z'
	}
	pred, predBytes := written("r")
	name, nameBytes := written("name")
	wantApply(t, e, []api.Fact{{Pred: pred, Args: []string{name}}}, nil, api.OK)
	copy(nameBytes, "zzzz")
	l, _ := e.All(pred)
	predBytes[0] = 'z'
	if len(l) != 1 || l[0].Pred != "r" || l[0].Args[0] != "name" {
		t.Errorf("P2: All = %v, want r(name)", l)
	}
	wantAll(t, e, "r", "r name")
	wantAll(t, e, "p", "p a")
	wantAll(t, e, "q", "q name b")
	wantTruth(t, e, "q name b", false, true, 1)
	if _, err := e.All("z"); err != api.ErrFact {
		t.Errorf("P2: All(z) = %d, want ErrFact", err)
	}
}

func TestP2ListsNotKept(t *testing.T) {
	e := engineOf(t, pathText)
	come := append(make([]api.Fact, 0, 8), api.Fact{Pred: "edge", Args: []string{"a", "b", "room"}[:2]}, one("edge c d"), one("room"))
	gone := append(make([]api.Fact, 0, 8), api.Fact{Pred: "edge", Args: []string{"c", "d", "room"}[:2]}, one("room"))
	wantApply(t, e, come[:2], gone[:1], api.OK)
	e.Ask(come[0])
	if come[2].Pred != "room" || gone[1].Pred != "room" || come[0].Args[:3][2] != "room" || gone[0].Args[:3][2] != "room" || come[0].Args[0] != "a" || come[1].Args[1] != "d" || gone[0].Pred != "edge" {
		t.Errorf("P2: what was handed in is %v, %v", come, gone)
	}
	for _, f := range append(come[:2:2], gone[0]) {
		f.Args[0], f.Args[1] = "x", "y"
	}
	come[0].Pred, gone[0].Pred = "path", "path"
	wantAll(t, e, "edge", "edge a b")
	wantAll(t, e, "path", "path a b")
}

// scribble writes over a list and the lists in it, up to the end of their room.
func scribble(l []api.Fact) {
	for _, f := range l {
		args := f.Args[:cap(f.Args)]
		for i := range args {
			args[i] = "over"
		}
	}
	l = l[:cap(l)]
	for i := range l {
		l[i] = one("over over")
	}
}

func TestP2ListsOutAreNew(t *testing.T) {
	e := engineOf(t, pathText)
	want := []string{"edge a b", "edge b c", "edge c a"}
	wantApply(t, e, list(want...), nil, api.OK)
	first, _ := e.All("edge")
	second, _ := e.All("edge")
	third, _ := e.All("path")
	scribble(first)
	scribble(third)
	for i, f := range second {
		if f.Pred+" "+strings.Join(f.Args, " ") != want[i] {
			t.Errorf("P2: the second list has %v, want %s", f, want[i])
		}
	}
	wantAll(t, e, "edge", want...)
	// The lists in one list have nothing in common either.
	for i := range second {
		args := second[i].Args[:cap(second[i].Args)]
		for k := range args {
			args[k] = "own" + strconv.Itoa(i)
		}
	}
	for i, f := range second {
		if f.Args[0] != "own"+strconv.Itoa(i) || f.Args[1] != f.Args[0] {
			t.Errorf("P2: list %d was written into: %v", i, f.Args)
		}
	}
	wantAll(t, e, "edge", want...)
	wantApply(t, e, nil, list("edge a b"), api.OK)
	wantAll(t, e, "path", "path b a", "path b c", "path c a")
}

func TestP2EnginesBesideOneAnother(t *testing.T) {
	a, b, c := engineOf(t, pathText), engineOf(t, pathText), engineOf(t, "edge(X,X):-path(X).")
	wantApply(t, a, list("edge a b"), nil, api.OK)
	wantApply(t, b, list("edge b c"), nil, api.OK)
	wantApply(t, c, list("path c"), nil, api.OK)
	wantApply(t, a, list("path c"), nil, api.ErrFact)
	wantApply(t, a, list("edge b d"), nil, api.OK)
	wantAll(t, a, "path", "path a b", "path a d", "path b d")
	wantAll(t, b, "path", "path b c")
	wantAll(t, c, "edge", "edge c c")
	wantApply(t, b, nil, list("edge a b", "edge b c"), api.OK)
	wantAll(t, b, "path")
	wantAll(t, a, "edge", "edge a b", "edge b d")
}

// TestP1RefusedLeavesAll: behind each refusal all is as it was, and what comes then is as if there had been none.
func TestP1RefusedLeavesAll(t *testing.T) {
	r := rand.New(rand.NewSource(1))
	names := []string{"a", "b", "c"}
	for range 60 {
		o := oracle{someRules(r), map[string]bool{}}
		e := engineOf(t, o.text())
		facts := o.everyFact(names)
		for range 4 {
			come, gone := someFacts(r, facts, 3), someFacts(r, facts, 2)
			next, want := o.apply(come, gone)
			wantApply(t, e, list(someFacts(r, facts, 40)...), list(someFacts(r, facts, 25)...), api.ErrMany)
			wantApply(t, e, append(list(someFacts(r, facts, 20)...), one("p a a")), list(someFacts(r, facts, 20)...), api.ErrFact)
			wantApply(t, e, list(someFacts(r, facts, 20)...), append(list(someFacts(r, facts, 20)...), one("zz a")), api.ErrFact)
			wantLike(t, e, o, names)
			wantApply(t, e, list(come...), list(gone...), want)
			o = next
			wantLike(t, e, o, names)
		}
	}
}
