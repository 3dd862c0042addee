package axiom_test

import (
	"crypto/sha256"
	"encoding/binary"
	"maps"
	"math/rand"
	"slices"
	"strings"
	"testing"

	"axiom/api"
	"axiom/axiom"
)

const headSize = 32

// someHead is a head like any other.
const someHead = "0123456789abcdef\x00\x80\xff()XYéé....\n"

// pack writes numbers and texts, each as the document says.
func pack(parts ...any) string {
	var b []byte
	for _, part := range parts {
		switch part := part.(type) {
		case int:
			b = binary.AppendUvarint(b, uint64(part))
		case string:
			b = binary.AppendUvarint(b, uint64(len(part)))
			b = append(b, part...)
		}
	}
	return string(b)
}

func digestOf(s string) string {
	d := sha256.Sum256([]byte(s))
	return string(d[:])
}

// contentOf writes a record's content; the facts are texts.
func contentOf(come, gone []string) string {
	content := ""
	for _, texts := range [][]string{come, gone} {
		content += pack(len(texts))
		for _, f := range texts {
			for _, word := range strings.Fields(f) {
				content += pack(word)
			}
		}
	}
	return content
}

// headBehind gives the head behind a change, whose facts are texts.
func headBehind(head string, come, gone []string) string {
	return digestOf(head + contentOf(come, gone))
}

func (o oracle) plain() string { return strings.NewReplacer(" ", "", "\n", "").Replace(o.text()) }

// export writes the state as the document's words say, all but the head.
func (o oracle) export() string {
	model := o.model()
	facts := slices.SortedFunc(maps.Keys(model), compareFacts)
	var names []string
	for _, f := range facts {
		names = append(names, strings.Fields(f)[1:]...)
	}
	slices.Sort(names)
	names = slices.Compact(names)
	out := pack(o.plain(), len(names))
	for _, name := range names {
		out += pack(name)
	}
	for _, pred := range slices.Sorted(maps.Keys(o.places())) {
		n, part := 0, ""
		for _, f := range facts {
			words := strings.Fields(f)
			if words[0] != pred {
				continue
			}
			n++
			given := 0
			if o.given[f] {
				given = 1
			}
			part += pack(given, model[f])
			for _, name := range words[1:] {
				part += pack(slices.Index(names, name))
			}
		}
		out += pack(n) + part
	}
	return out
}

func wantExport(t *testing.T, e *axiom.Engine, want string) {
	t.Helper()
	if got := e.Export(); got != want {
		t.Fatalf("P8: Export() = %q, want %q", got, want)
	}
}

// body is an export without its head.
func body(s string) string { return s[:len(s)-headSize] }

func wantTaken(t *testing.T, s string) *axiom.Engine {
	t.Helper()
	e, err := axiom.Import(s)
	if e == nil || err != api.OK {
		t.Fatalf("P9: Import(%.400q) = %v, %d, want an engine", s, e, err)
	}
	wantExport(t, e, s)
	if log := e.Log(); log != "" {
		t.Fatalf("P9: the log of what was taken is %q", log)
	}
	return e
}

func wantRefused(t *testing.T, s string) {
	t.Helper()
	if e, err := axiom.Import(s); e != nil || err != api.ErrBytes {
		t.Errorf("P9: Import(%.400q) = %v, %d, want nil, ErrBytes", s, e, err)
	}
}

func TestP8Example(t *testing.T) {
	e := engineOf(t, " p( a ).\n")
	wantExport(t, e, "\x05\x70\x28\x61\x29\x2e"+"\x01\x01\x61"+"\x01"+"\x00\x01\x00"+digestOf("p(a)."))
	wantExport(t, e, e.Export())
}

func TestP8Nothing(t *testing.T) {
	e := engineOf(t, " \n")
	wantExport(t, e, "\x00\x00"+digestOf(""))
	wantApply(t, e, nil, nil, api.OK)
	wantExport(t, e, "\x00\x00"+digestOf(digestOf("")+"\x00\x00"))
	// Rules and predicates, but no facts and so no names, though a name stands in a rule.
	e = engineOf(t, "z(X, c) :- m(X).")
	wantExport(t, e, pack("z(X,c):-m(X).", 0, 0, 0)+digestOf("z(X,c):-m(X)."))
}

// TestP8Facts: facts that were given, that follow, and both.
func TestP8Facts(t *testing.T) {
	e := engineOf(t, "b(X):-a(X,Y). c(k,l,k).")
	wantApply(t, e, semi("a m n; a m k; b m; b z"), nil, api.OK)
	head := headBehind(digestOf("b(X):-a(X,Y).c(k,l,k)."), []string{"a m n", "a m k", "b m", "b z"}, nil)
	names := []any{5, "k", "l", "m", "n", "z"}
	a := []any{2, 1, 0, 2, 0, 1, 0, 2, 3}
	b := []any{2, 1, 2, 2, 1, 0, 4}
	c := []any{1, 0, 1, 0, 1, 0}
	wantExport(t, e, pack("b(X):-a(X,Y).c(k,l,k).")+pack(names...)+pack(a...)+pack(b...)+pack(c...)+head)
}

// TestP8Order: predicates, names and facts stand in the order of their bytes, wherever they stood ahead.
func TestP8Order(t *testing.T) {
	text := "é(X):-zz(X). z1(a):-zz(b). z(X):-é(X). a(X,Y):-a(Y,X)."
	come := []string{"é z", "z b", "é \U0010ffff", "a ab a", "a b a", "z1 a1", "zz é", "z \ufffd", "a a z", "a à aa"}
	e := engineOf(t, text)
	wantApply(t, e, list(come...), nil, api.OK)
	names := pack(10, "a", "a1", "aa", "ab", "b", "z", "à", "é", "\ufffd", "\U0010ffff")
	facts := pack(8, 0, 1, 0, 3, 0, 1, 0, 4, 1, 1, 0, 5, 0, 1, 2, 6, 1, 1, 3, 0, 1, 1, 4, 0, 0, 1, 5, 0, 1, 1, 6, 2)
	facts += pack(5, 1, 0, 4, 0, 1, 5, 0, 1, 7, 1, 0, 8, 0, 1, 9)
	facts += pack(1, 1, 0, 1)
	facts += pack(1, 1, 0, 7)
	facts += pack(3, 1, 0, 5, 0, 1, 7, 1, 0, 9)
	plain := strings.ReplaceAll(text, " ", "")
	want := pack(plain) + names + facts + headBehind(digestOf(plain), come, nil)
	wantExport(t, e, want)
	wantTaken(t, want)
}

// wide gives facts of w with three names each, all different.
func wide(n int) []string {
	const digits = "0123456789abcdefghij"
	name := func(i int) string { return "n" + string(digits[i/20]) + string(digits[i%20]) }
	var out []string
	for i := range n {
		out = append(out, "w "+name(3*i)+" "+name(3*i+1)+" "+name(3*i+2))
	}
	return out
}

// TestP8Numbers: those of more bytes than one: a text's length, how many names and facts, a count, a name's number.
func TestP8Numbers(t *testing.T) {
	text := "w(o1,o2,o3). w(o4,o5,o6). w(o7,o8,o9). w(p1,p2,p3). w(p4,p5,p6). w(p7,p8,p9). k(a,b,c):-w(X,Y,Z),w(U,V,W). w(q1,q2,q3)."
	e := engineOf(t, text)
	wantApply(t, e, list(wide(api.MaxFacts)...), nil, api.OK)
	plain := strings.ReplaceAll(text, " ", "")
	names := 3*api.MaxFacts + 3*7 + 3
	if s := e.Export(); !strings.HasPrefix(s, pack(plain, names)) || !strings.Contains(s, pack(1, 0, 47*47, 0, 1, 2, 47)) || !strings.HasSuffix(body(s), pack(0, 1, 141, 142, 143)) {
		t.Errorf("P8: Export() = %q", s)
	}
	wantTaken(t, e.Export())

	// 28561 instances, in three bytes; 200 facts, in two.
	text = "s(X,Y):-m(X),m(Y). k(z):-s(X,Y),s(U,V). s(X,X):-u(X)."
	e = engineOf(t, text)
	wantApply(t, e, append(numbered("m", 13), list("u n00", "u n01")...), nil, api.OK)
	s := e.Export()
	if !strings.Contains(s, pack(1, 0, 28561, 13, 13, 1, 0, 0, 1, 0, 1)) || !strings.Contains(s, pack(169, 0, 2, 0, 0, 0, 1, 0, 1)) {
		t.Errorf("P8: Export() = %q", s)
	}
	wantTaken(t, s)
}

// TestP8P9Oracle holds exports against what the document's words give, over many programs and changes; each is taken up again, and what was taken goes on beside the first.
func TestP8P9Oracle(t *testing.T) {
	r := rand.New(rand.NewSource(8))
	names := []string{"a", "b", "c"}
	for range 250 {
		o := oracle{someRules(r), map[string]bool{}}
		e := engineOf(t, o.text())
		taken := wantTaken(t, e.Export())
		head := digestOf(o.plain())
		facts := o.everyFact(names)
		wantExport(t, e, o.export()+head)
		for range 5 {
			come, gone := someFacts(r, facts, r.Intn(10)), someFacts(r, facts, r.Intn(8))
			next, err := o.apply(come, gone)
			if err == api.OK {
				head = headBehind(head, come, gone)
			}
			o = next
			want := o.export() + head
			for _, engine := range []*axiom.Engine{e, taken} {
				wantApply(t, engine, list(come...), list(gone...), err)
				wantExport(t, engine, want)
				wantLike(t, engine, o, names)
			}
			wantLike(t, wantTaken(t, o.export()+someHead), o, names)
			if r.Intn(2) == 0 {
				taken = wantTaken(t, want)
			}
		}
	}
}

// TestP12ExportOfOneState: the same bytes but for the head, whatever came and went in which order.
func TestP12ExportOfOneState(t *testing.T) {
	r := rand.New(rand.NewSource(3))
	for range 150 {
		o := oracle{someRules(r), map[string]bool{}}
		facts := o.everyFact([]string{"a", "b", "c", "é"})
		last := someFacts(r, facts, 5)
		straight, round := engineOf(t, o.text()), engineOf(t, o.text())
		if straight.Apply(list(last...), nil) != api.OK {
			continue
		}
		for range 4 {
			some := list(someFacts(r, facts, 5)...)
			if round.Apply(some, nil) == api.OK {
				wantApply(t, round, nil, some, api.OK)
			}
		}
		slices.Reverse(last)
		wantApply(t, round, list(last...), nil, api.OK)
		wantApply(t, round, nil, nil, api.OK)
		a, b := straight.Export(), round.Export()
		if body(a) != body(b) || a == b {
			t.Fatalf("P12: the exports are %q and %q", a, b)
		}
	}
}

// TestP1P8RefusedLeavesExport: a refused Apply changes nothing, the head neither.
func TestP1P8RefusedLeavesExport(t *testing.T) {
	e := engineOf(t, "s(X,Y):-m(X),m(Y).")
	wantApply(t, e, list("m a"), nil, api.OK)
	want := e.Export()
	wantApply(t, e, numbered("m", 65), nil, api.ErrMany)
	wantApply(t, e, list("m b", "m"), nil, api.ErrFact)
	wantApply(t, e, nil, list("m a", "k a"), api.ErrFact)
	wantApply(t, e, numbered("m", 14), nil, api.ErrFull)
	wantApply(t, e, numbered("m", 41), nil, api.ErrFull)
	e.Ask(one("m x"))
	e.All("s")
	wantExport(t, e, want)
	wantApply(t, e, nil, nil, api.OK) // nothing comes and goes, but the head goes on
	if s := e.Export(); s == want || body(s) != body(want) {
		t.Errorf("P8: behind an empty change Export() = %q", s)
	}
}

func TestP9Taken(t *testing.T) {
	p := "z(X,Y):-m(X),m(Y)."
	for _, s := range []string{
		pack("", 0),
		pack(p, 0, 0, 0),
		pack(p, 1, "a", 1, 1, 0, 0, 1, 0, 1, 0, 0),
		pack(p, 2, "a", "b", 0, 1, 1, 0, 1, 0),
		pack(p, 2, "a", "b", 1, 1, 0, 1, 2, 1, 0, 0, 1, 1, 1, 1, 1),
		pack("p(a).", 1, "a", 1, 0, 1, 0),
		pack("p(a).", 1, "a", 1, 1, 1, 0),
		pack("p(X):-p(X).", 1, "a", 1, 1, 1, 0),
		pack("né(X):-né(X).", 1, "\U0010ffff\U0010ffff\U0010ffff\U0010ffff\U0010ffff\U0010ffff", 1, 1, 1, 0),
	} {
		for _, head := range []string{someHead, strings.Repeat("\x00", headSize), strings.Repeat("\xff", headSize), digestOf(s)} {
			wantTaken(t, s+head)
		}
	}
	e := wantTaken(t, pack(p, 2, "a", "b", 1, 1, 0, 0, 2, 0, 1, 0, 0, 1, 0, 1, 0)+someHead)
	wantTruth(t, e, "m a", true, true, 0)
	wantTruth(t, e, "z a a", false, true, 1)
	wantTruth(t, e, "z b a", true, true, 0)
	wantAll(t, e, "z", "z a a", "z b a")
	wantApply(t, e, list("m c"), list("z b a", "m a"), api.OK)
	wantExport(t, e, pack(p, 1, "c", 1, 1, 0, 0, 1, 0, 1, 0, 0)+headBehind(someHead, []string{"m c"}, []string{"z b a", "m a"}))
}

func TestP9NoExport(t *testing.T) {
	p := "z(X,Y):-m(X),m(Y)."
	m := pack(1, 1, 0, 0) // m(a), given
	z := pack(1, 0, 1, 0, 0)
	one := pack(p, 1, "a")
	two := pack(p, 2, "a", "b")
	for what, s := range map[string]string{
		"no bytes":                     "",
		"half a length":                "\x92",
		"a text too short":             "\x12z(X,Y)",
		"a program alone":              pack(p),
		"half the names":               pack(p, 2, "a"),
		"a program that is none":       pack("p(a", 0, 0),
		"a program with two arities":   pack("p(a).p(a,b).", 0, 0),
		"an open head":                 pack("p(X):-q(Y).", 0, 0, 0),
		"blanks":                       pack("z(X,Y):-m(X), m(Y).", 1, "a") + m + z,
		"a line end":                   pack(p+"\n", 1, "a") + m + z,
		"too many rules":               pack(strings.Repeat("p(a).", 9), 1, "a", 1, 0, 9, 0),
		"a body too long":              pack("p(X):-p(X),p(X),p(X).", 0, 0),
		"a length in two bytes":        "\x92\x00" + one[1:] + m + z,
		"a length of ten bytes":        strings.Repeat("\xff", 9) + "\x01" + one[1:] + m + z,
		"names in two bytes":           pack(p) + "\x81\x00\x01a" + m + z,
		"a name's length in two":       pack(p) + "\x01\x81\x00a" + m + z,
		"facts in two bytes":           one + "\x81\x00\x01\x00\x00" + z,
		"no facts in two bytes":        pack(p, 0) + "\x80\x00" + pack(0),
		"given in two bytes":           one + "\x01\x81\x00\x00\x00" + z,
		"a count in two bytes":         one + m + "\x01\x00\x81\x00\x00\x00",
		"a count of 0 in two bytes":    one + "\x01\x01\x80\x00\x00" + z,
		"a name's number in two":       one + m + "\x01\x00\x01\x00\x80\x00",
		"a name too many":              two + m + z,
		"a name of no fact":            pack(p, 1, "a", 0, 0),
		"a name too few":               pack(p, 0) + m + z,
		"names out of order":           pack(p, 2, "b", "a", 0, 1, 1, 0, 0, 1),
		"names by length":              pack(p, 2, "b", "ab", 0, 1, 1, 0, 0, 1),
		"one name twice":               pack(p, 2, "a", "a", 0, 1, 1, 0, 0, 1),
		"an empty name":                pack(p, 1, "") + m + z,
		"a capital":                    pack(p, 1, "A") + m + z,
		"a digit ahead":                pack(p, 1, "1a") + m + z,
		"a name too long":              pack(p, 1, "abcdefg") + m + z,
		"a blank in a name":            pack(p, 1, "a b") + m + z,
		"a byte that is no code point": pack(p, 1, "a\xff") + m + z,
		"a number of no name":          one + pack(1, 1, 0, 1) + z,
		"another number of no name":    one + m + pack(1, 0, 1, 0, 1),
		"a great number of a name":     one + m + pack(1, 0, 1, 0, 1<<31),
		"a fact that is missing":       one + m + pack(0),
		"no fact at all":               one + pack(0, 0),
		"a fact that does not follow":  one + pack(0) + z,
		"what follows from it":         two + m + pack(2, 0, 1, 0, 0, 0, 0, 1, 0),
		"a fact twice":                 one + pack(2, 1, 0, 0, 1, 0, 0) + z,
		"what follows twice":           one + m + pack(2, 0, 1, 0, 0, 0, 1, 0, 0),
		"once given and once not":      one + pack(2, 0, 0, 0, 1, 0, 0) + z,
		"facts out of order":           two + pack(0, 2, 1, 0, 1, 0, 1, 0, 0, 1),
		"a count too small":            one + m + pack(1, 0, 0, 0, 0),
		"a count too great":            one + m + pack(1, 0, 2, 0, 0),
		"a count of what is given":     one + pack(1, 1, 1, 0) + z,
		"a great count":                one + m + pack(1, 0, 1<<40+1, 0, 0),
		"given as 2":                   one + pack(1, 2, 0, 0) + z,
		"given as 3":                   one + m + pack(1, 3, 1, 0, 0),
		"given as 128":                 one + pack(1, 128, 0, 0) + z,
		"given, though it is not":      one + pack(1, 0, 0, 0) + z,
		"a predicate too few":          one + z,
		"a predicate too many":         one + m + z + pack(0),
		"predicates out of order":      one + z + m,
		"as many facts as can be":      one + pack(1<<62, 1, 0, 0) + z,
		"as many names as can be":      pack(p, 1<<62, "a") + m + z,
		"what holds up itself":         pack("p(X):-p(X).", 1, "a", 1, 0, 1, 0),
		"two that hold up each other":  pack("p(X):-q(X).q(X):-p(X).", 1, "a", 1, 0, 1, 0, 1, 0, 1, 0),
		"a byte between":               one + m + z + "\x00",
		"a name of another program":    pack("p(a).", 2, "a", "b", 1, 0, 1, 0),
		"a rule's head that is gone":   pack("p(a).", 0, 0),
	} {
		t.Run(what, func(t *testing.T) { wantRefused(t, s+someHead) })
	}
	good := one + m + z
	wantTaken(t, good+someHead)
	for n := range headSize {
		wantRefused(t, good+someHead[:n])
		wantRefused(t, strings.Repeat("\x00", n))
	}
	wantRefused(t, good+someHead+"\x00")
	wantRefused(t, good+someHead+someHead)
	wantRefused(t, "\x00"+good+someHead)
	wantRefused(t, strings.Repeat("\x00", headSize))
	wantTaken(t, strings.Repeat("\x00", headSize+2)) // the empty program
	wantRefused(t, strings.Repeat("\x00", headSize+3))
}

func TestP9MaxText(t *testing.T) {
	rest := strings.Repeat("abcdef(abcdef,abcdef,abcdef):-abcdef(abcdef,abcdef,abcdef),abcdef(abcdef,abcdef,abcdef).", 6) + "abcdef(abcdef,abcdef,abcdef):-abcdef(abcdef,abcdef,abcdef)."
	full := rest + "p(aaaaaa,aa)."
	if len(full) != api.MaxText {
		t.Fatalf("the text has %d bytes", len(full))
	}
	wantTaken(t, pack(full, 2, "aa", "aaaaaa", 0, 1, 0, 1, 1, 0)+someHead)
	wantExport(t, engineOf(t, full), pack(full, 2, "aa", "aaaaaa", 0, 1, 0, 1, 1, 0)+digestOf(full))
	wantRefused(t, pack(rest+"p(aaaaaa,aaa).", 2, "aaa", "aaaaaa", 0, 1, 0, 1, 1, 0)+someHead)
}

// withGiven is an oracle of rules to which so many facts of each predicate are given.
func withGiven(rules []rule, given map[string]int) oracle {
	o := oracle{rules, map[string]bool{}}
	for pred, n := range given {
		for _, f := range numbered(pred, n) {
			o.given[f.Pred+" "+f.Args[0]] = true
		}
	}
	return o
}

func givenFacts(o oracle) []api.Fact { return list(slices.Sorted(maps.Keys(o.given))...) }

func TestP9MaxFacts(t *testing.T) {
	rules := []rule{{{"p", "X"}, {"q", "X"}}}
	wantTaken(t, withGiven(rules, map[string]int{"p": api.MaxFacts}).export()+someHead)
	wantTaken(t, withGiven(rules, map[string]int{"p": api.MaxFacts - 1, "q": 1}).export()+someHead)
	wantRefused(t, withGiven(rules, map[string]int{"p": api.MaxFacts + 1}).export()+someHead)
	wantRefused(t, withGiven(rules, map[string]int{"p": api.MaxFacts, "q": 1}).export()+someHead)
}

func TestP9MaxModel(t *testing.T) {
	rules := []rule{{{"s", "X", "Y"}, {"m", "X"}, {"m", "Y"}}, {{"u", "X"}, {"w", "X"}}}
	full := withGiven(rules, map[string]int{"m": 13, "u": 18})
	if n := len(full.model()); n != api.MaxModel {
		t.Fatalf("%d facts hold", n)
	}
	e := wantTaken(t, full.export()+someHead)
	wantApply(t, e, list("u x"), nil, api.ErrFull)
	wantExport(t, e, full.export()+someHead)
	wantRefused(t, withGiven(rules, map[string]int{"m": 13, "u": 19}).export()+someHead)
	wantRefused(t, withGiven(rules, map[string]int{"m": 14}).export()+someHead)
	// All that may hold, of one predicate: ten names in the first place, with each of twenty in the second.
	grid := oracle{[]rule{{{"p", "X", "Y"}, {"p", "X", "Z"}, {"p", "W", "Y"}}}, map[string]bool{}}
	for i, f := range numbered("p", 20) {
		grid.given["p "+string(rune('a'+i/2))+" "+f.Args[0]] = true
	}
	e = engineOf(t, grid.text())
	wantApply(t, e, givenFacts(grid), nil, api.OK)
	if n := len(allTexts(t, e, "p")); n != api.MaxModel {
		t.Fatalf("%d facts of p hold", n)
	}
	wantTaken(t, e.Export())
	// Too much holds, though nothing is given.
	above := oracle{[]rule{{{"r", "X", "Y"}, {"m", "X"}, {"m", "Y"}}, {{"s", "X", "Y", "Z"}, {"r", "X", "Y"}, {"m", "Z"}}}, map[string]bool{}}
	for _, name := range []string{"a", "b", "c", "d", "e"} {
		above.rules = append(above.rules, rule{{"m", name}})
	}
	wantTaken(t, above.export()+someHead)
	above.rules = append(above.rules, rule{{"m", "f"}})
	wantRefused(t, above.export()+someHead)
}

// wantExportOrNone: what is taken is written as what it was taken from, and by an engine of the same program to which the same is given, too.
func wantExportOrNone(t *testing.T, s string) bool {
	t.Helper()
	e, err := axiom.Import(s)
	if err != api.OK {
		if e != nil || err != api.ErrBytes {
			t.Fatalf("P9: Import(%q) = %v, %d", s, e, err)
		}
		return false
	}
	if got := e.Export(); got != s {
		t.Fatalf("P9: Import(%q) was taken, but its export is %q", s, got)
	}
	size, n := binary.Uvarint([]byte(s))
	plain := s[n : n+int(size)]
	fresh := engineOf(t, plain)
	wantApply(t, fresh, givenOf(e, plain), nil, api.OK)
	if got := fresh.Export(); body(got) != body(s) {
		t.Fatalf("P9: Import(%q) was taken, but such an engine's export is %q", s, got)
	}
	return true
}

func givenOf(e *axiom.Engine, plain string) []api.Fact {
	var given []api.Fact
	for _, pred := range wordsOf(plain) {
		all, _ := e.All(pred)
		for _, f := range all {
			if truth, _ := e.Ask(f); truth.Given {
				given = append(given, f)
			}
		}
	}
	return given
}

// wordsOf gives the different words of a program's text; its predicates are among them.
func wordsOf(text string) []string {
	words := strings.FieldsFunc(text, func(r rune) bool { return strings.ContainsRune("(),.:-", r) })
	slices.Sort(words)
	return slices.Compact(words)
}

// TestP9EveryByte turns, takes out and puts in each byte of some exports.
func TestP9EveryByte(t *testing.T) {
	e := engineOf(t, pathText)
	wantApply(t, e, semi("edge a b; edge b c; path x é; edge c a"), nil, api.OK)
	tried := []string{e.Export(), engineOf(t, "p(a). q(X,b):-p(X).").Export(), engineOf(t, "").Export()}
	for _, s := range tried {
		taken := 0
		try := func(changed string, isHead bool) {
			if wantExportOrNone(t, changed) {
				taken++
			} else if isHead {
				t.Fatalf("P9: Import of another head is refused: %q", changed)
			}
		}
		for at := range len(s) {
			wantRefused(t, s[:at])
			wantRefused(t, s[at+1:])
			isHead := at >= len(s)-headSize
			for b := range 256 {
				turned := s[:at] + string([]byte{byte(b)}) + s[at+1:]
				if !isHead || b%16 == 0 {
					try(turned, isHead)
				}
				if !isHead {
					try(s[:at]+string([]byte{byte(b)})+s[at:], false)
				}
			}
			try(s[:at]+s[at+1:], false)
			if at > 0 {
				try(s[:at-1]+string([]byte{s[at], s[at-1]})+s[at+1:], isHead && at > len(s)-headSize)
			}
		}
		if taken < headSize*16 {
			t.Errorf("P9: only %d of the changed ones were taken", taken)
		}
	}
}

// TestP1ImportOfMuch: long strings and great numbers are refused at once.
func TestP1ImportOfMuch(t *testing.T) {
	much := strings.Repeat("\x01\x01\x00\x00", 1<<18)
	for _, s := range []string{much, strings.Repeat("\xff", 1<<20), strings.Repeat("\x80", 1<<20) + "\x01", pack("p(X):-p(X).", 1, "a", 1<<20) + much, pack("p(X):-p(X).", 1<<20) + much, pack("p(X):-p(X).", 1<<62) + much, pack(strings.Repeat("p(a).", 1<<18), 1, "a", 1, 0, 1<<18, 0), pack("p(X):-p(X).", 1, strings.Repeat("a", 1<<20), 1, 1, 1, 0)} {
		wantRefused(t, s)
		wantRefused(t, s+someHead)
	}
}

func TestP2ImportedNotKept(t *testing.T) {
	want := pack("q(X,k):-r(X).p(a).", 3, "a", "k", "name", 1, 0, 1, 0, 1, 0, 1, 2, 1, 1, 1, 0, 2) + someHead
	s, bytes := written(want)
	e := wantTaken(t, s)
	for i := range bytes {
		bytes[i] = 'z'
	}
	wantExport(t, e, want)
	wantAll(t, e, "q", "q name k")
	wantAll(t, e, "r", "r name")
	wantApply(t, e, list("r b"), nil, api.OK)
	wantAll(t, e, "q", "q b k", "q name k")
}

// TestP2ExportStays: what was written is not changed by what comes and goes then.
func TestP2ExportStays(t *testing.T) {
	e := engineOf(t, pathText)
	wantApply(t, e, list("edge a b"), nil, api.OK)
	s := e.Export()
	before := strings.Clone(s)
	name, bytes := written("q")
	wantApply(t, e, []api.Fact{{Pred: "edge", Args: []string{name, name}}}, list("edge a b"), api.OK)
	behind := e.Export()
	bytes[0] = 'z'
	if s != before || e.Export() != behind || behind == before {
		t.Errorf("P2: the exports are %q, %q, %q", s, behind, e.Export())
	}
	wantTaken(t, s)
	wantTaken(t, behind)
}

func TestP2TakenBesideOneAnother(t *testing.T) {
	first := engineOf(t, pathText)
	wantApply(t, first, list("edge a b"), nil, api.OK)
	s := first.Export()
	a, b := wantTaken(t, s), wantTaken(t, s)
	wantApply(t, a, list("edge b c"), nil, api.OK)
	wantRefused(t, s+"\x00")
	wantExport(t, b, s)
	wantExport(t, first, s)
	wantApply(t, b, nil, list("edge a b"), api.OK)
	wantAll(t, a, "path", "path a b", "path a c", "path b c")
	wantAll(t, b, "path")
	wantAll(t, first, "path", "path a b")
	wantApply(t, first, list("edge b c"), nil, api.OK)
	wantExport(t, first, a.Export())
}

func FuzzImport(f *testing.F) {
	f.Add(pack("z(X,Y):-m(X),m(Y).", 1, "a", 1, 1, 0, 0, 1, 0, 1, 0, 0) + someHead)
	f.Add(pack("p(a).", 1, "a", 1, 1, 1, 0) + someHead)
	f.Add(pack("p(X):-q(X).q(X):-p(X).", 1, "a", 1, 1, 1, 0, 1, 0, 1, 0) + someHead)
	f.Fuzz(func(t *testing.T, s string) { wantExportOrNone(t, s) })
}
