package axiom_test

import (
	"math/rand"
	"slices"
	"strings"
	"testing"

	"axiom/api"
	"axiom/axiom"
)

// change is what comes and goes at once, as texts.
type change struct{ come, gone []string }

// recordOf writes a record of a content behind a head, whatever the content is.
func recordOf(head, content string) string { return pack(content) + digestOf(head+content) }

// logOf writes a record for each change, from a head on.
func logOf(head string, changes ...change) string {
	var log strings.Builder
	for _, c := range changes {
		r := recordOf(head, contentOf(c.come, c.gone))
		head = headAhead(r)
		log.WriteString(r)
	}
	return log.String()
}

// headAhead is the head at the end of an export or of a log: the one ahead of what comes then.
func headAhead(s string) string { return s[len(s)-headSize:] }

func headOf(e *axiom.Engine) string { return headAhead(e.Export()) }

func applyChange(t *testing.T, e *axiom.Engine, c change, want api.Errno) {
	t.Helper()
	wantApply(t, e, list(c.come...), list(c.gone...), want)
}

func wantLog(t *testing.T, e *axiom.Engine, want string) {
	t.Helper()
	if got := e.Log(); got != want {
		t.Fatalf("P10: Log() = %q, want %q", got, want)
	}
}

func TestP10Bytes(t *testing.T) {
	e := engineOf(t, " p( X ) :- p(X). ")
	h0 := digestOf("p(X):-p(X).")
	wantLog(t, e, "")
	wantApply(t, e, list("p a"), nil, api.OK)
	first := "\x06" + "\x01\x01p\x01a\x00"
	h1 := digestOf(h0 + first[1:])
	wantLog(t, e, first+h1)
	wantApply(t, e, nil, list("p né"), api.OK) // it was not given, but the record tells that it went
	second := "\x08" + "\x00\x01\x01p\x03n\xc3\xa9"
	h2 := digestOf(h1 + second[1:])
	wantLog(t, e, first+h1+second+h2)
	wantApply(t, e, nil, nil, api.OK)
	third := "\x02" + "\x00\x00"
	h3 := digestOf(h2 + third[1:])
	wantLog(t, e, first+h1+second+h2+third+h3)
	if head := headOf(e); head != h3 {
		t.Errorf("P10: the head is %q, want %q", head, h3)
	}
}

func TestP10EmptyLog(t *testing.T) {
	for _, text := range []string{"", "p(a).", pathText, fullStart + fullRules} {
		e := engineOf(t, text)
		wantLog(t, e, "")
		again, place, err := axiom.Replay(e.Export(), "")
		if again == nil || place != 0 || err != api.OK {
			t.Fatalf("P11: Replay of nothing = %v, %d, %d", again, place, err)
		}
		wantLog(t, again, "")
		wantApply(t, e, nil, nil, api.OK)
		wantTaken(t, e.Export()) // its log is empty too, though the head has gone on
		wantLog(t, e, logOf(digestOf(strings.ReplaceAll(text, " ", "")), change{}))
	}
}

// TestP10HandedIn: a record has all that was handed in, in its order, once more what was there twice, and what changed nothing.
func TestP10HandedIn(t *testing.T) {
	e := engineOf(t, pathText)
	changes := []change{
		{[]string{"path z z", "edge b c", "edge a b", "edge b c", "path a b"}, []string{"edge x y", "edge a b", "edge x y"}},
		{nil, []string{"path z z", "edge c c", "edge b c"}},
		{[]string{"edge b c", "edge b c"}, []string{"edge b c"}},
		{[]string{"path a b"}, nil},
		{},
		{[]string{"path é \U0010ffff", "edge \ufffd à"}, []string{"path é \U0010ffff"}},
	}
	for i, c := range changes {
		applyChange(t, e, c, api.OK)
		wantLog(t, e, logOf(digestOf(strings.ReplaceAll(pathText, " ", "")), changes[:i+1]...))
	}
	// What is one change and what are two is to be seen.
	two := engineOf(t, pathText)
	wantApply(t, two, list("edge a b"), nil, api.OK)
	wantApply(t, two, list("edge b c"), nil, api.OK)
	both := engineOf(t, pathText)
	wantApply(t, both, list("edge a b", "edge b c"), nil, api.OK)
	if body(two.Export()) != body(both.Export()) || two.Log() == both.Log() || headOf(two) == headOf(both) {
		t.Errorf("P10: the logs are %q and %q", two.Log(), both.Log())
	}
}

// TestP10OnlyOK: what is refused, or only asks, leaves no record.
func TestP10OnlyOK(t *testing.T) {
	e := engineOf(t, "s(X,Y):-m(X),m(Y).")
	calls := func() {
		wantApply(t, e, numbered("m", 65), nil, api.ErrMany)
		wantApply(t, e, nil, numbered("m", 65), api.ErrMany)
		wantApply(t, e, list("m b", "m"), nil, api.ErrFact)
		wantApply(t, e, list("m b"), list("k a"), api.ErrFact)
		wantApply(t, e, list("m b"), list("m B"), api.ErrFact)
		wantApply(t, e, numbered("m", 14), nil, api.ErrFull)
		wantApply(t, e, numbered("m", 41), nil, api.ErrFull)
		e.Ask(one("m x"))
		e.Ask(one("k x"))
		e.All("s")
		e.All("k")
		e.Export()
		e.Log()
	}
	calls()
	wantLog(t, e, "")
	var done []change
	for _, c := range []change{{[]string{"m a"}, nil}, {nil, []string{"m a"}}, {}} {
		applyChange(t, e, c, api.OK)
		done = append(done, c)
		calls()
		wantLog(t, e, logOf(digestOf("s(X,Y):-m(X),m(Y)."), done...))
	}
}

// longChange has a content of so many bytes: each fact of q has four, the first as many more as its name is longer.
func longChange(size int) change {
	facts := slices.Repeat([]string{"q a"}, (size-2)/4)
	facts[0] += strings.Repeat("a", (size-2)%4)
	return change{facts, nil}
}

// TestP10Long: contents whose length is a number of two bytes, up to the longest that there is.
func TestP10Long(t *testing.T) {
	e := engineOf(t, "p(X):-q(X).")
	head := digestOf("p(X):-q(X).")
	var changes []change
	for _, size := range []int{126, 127, 128, 129, 200, 255, 256, 257} {
		c := longChange(size)
		if n := len(contentOf(c.come, c.gone)); n != size {
			t.Fatalf("the content has %d bytes, want %d", n, size)
		}
		applyChange(t, e, c, api.OK)
		changes = append(changes, c)
		wantLog(t, e, logOf(head, changes...))
	}
	if log := e.Log(); log[126+1+headSize] != 127 || log[126+1+headSize+127+1+headSize:][:2] != "\x80\x01" {
		t.Errorf("P10: the log is %q", log)
	}

	word := strings.Repeat("\U0010ffff", api.MaxName)
	text := word + "(X,Y,Z):-" + word + "(X,Y,Z)."
	fact := strings.Join([]string{word, word, word, word}, " ")
	for _, n := range []int{0, 1, 32, 64} {
		e := engineOf(t, text)
		c := change{slices.Repeat([]string{fact}, n), slices.Repeat([]string{fact}, api.MaxChange-n)}
		start := e.Export()
		applyChange(t, e, c, api.OK)
		log := logOf(digestOf(text), c)
		wantLog(t, e, log)
		if want := 2 + 2 + 64*100 + headSize; len(log) != want {
			t.Errorf("P10: the log has %d bytes, want %d", len(log), want)
		}
		wantReplayed(t, start, log, len(log), api.OK)
	}
}

// TestP10ImportGoesOn: the log behind Import is empty, and its first record is chained to the head that was taken.
func TestP10ImportGoesOn(t *testing.T) {
	for _, head := range []string{someHead, strings.Repeat("\x00", headSize), strings.Repeat("\xff", headSize)} {
		e := wantTaken(t, pack("p(X):-q(X).", 1, "a", 1, 0, 1, 0, 1, 1, 0, 0)+head)
		changes := []change{{[]string{"q b"}, []string{"q a"}}, {}, {[]string{"p a"}, nil}}
		for i, c := range changes {
			applyChange(t, e, c, api.OK)
			wantLog(t, e, logOf(head, changes[:i+1]...))
		}
	}
	e := engineOf(t, pathText)
	wantApply(t, e, list("edge a b"), nil, api.OK)
	ahead := e.Log()
	taken := wantTaken(t, e.Export())
	for _, engine := range []*axiom.Engine{e, taken} {
		wantApply(t, engine, list("edge b c"), list("edge c a"), api.OK)
		wantApply(t, engine, nil, list("edge b"), api.ErrFact)
	}
	wantLog(t, e, ahead+taken.Log())
	wantExport(t, taken, e.Export())
}

// TestP10Oracle holds logs against what the document's words give, over many programs and changes, some of which are refused; an engine that is taken up on the way has the rest.
func TestP10Oracle(t *testing.T) {
	r := rand.New(rand.NewSource(10))
	names := []string{"a", "b", "c", "é"}
	refused := 0
	for range 200 {
		o := oracle{someRules(r), map[string]bool{}}
		e := engineOf(t, o.text())
		taken, ahead := wantTaken(t, e.Export()), ""
		facts := o.everyFact(names)
		var done []change
		for range 6 {
			c := change{someFacts(r, facts, r.Intn(30)), someFacts(r, facts, r.Intn(8))}
			next, err := o.apply(c.come, c.gone)
			if err == api.OK {
				done = append(done, c)
			} else {
				refused++
			}
			o = next
			applyChange(t, e, c, err)
			applyChange(t, taken, c, err)
			log := logOf(digestOf(o.plain()), done...)
			wantLog(t, e, log)
			wantLog(t, taken, strings.TrimPrefix(log, ahead))
			if r.Intn(3) == 0 {
				taken, ahead = wantTaken(t, e.Export()), log
			}
		}
	}
	if refused < 10 {
		t.Errorf("only %d changes were refused", refused)
	}
}

// TestP2LogStays: what was told is not changed by what comes and goes then, nor by what is written over what was handed in.
func TestP2LogStays(t *testing.T) {
	e := engineOf(t, "p(X):-p(X).")
	var told, want []string
	name, bytes := written("a")
	for range 20 {
		wantApply(t, e, []api.Fact{{Pred: "p", Args: []string{name}}}, nil, api.OK)
		told = append(told, e.Log())
		want = append(want, strings.Clone(e.Log()))
		bytes[0]++
	}
	bytes[0] = 'Z'
	if !slices.Equal(told, want) {
		t.Errorf("P2: the logs are %q, and were %q", told, want)
	}
	for i := range told[1:] {
		if !strings.HasPrefix(told[i+1], told[i]) {
			t.Errorf("P10: the log %q does not go on from %q", told[i+1], told[i])
		}
	}
	wantLog(t, e, want[19])
}

// TestP2LogsBesideOneAnother: each engine has its own, whatever program the others have.
func TestP2LogsBesideOneAnother(t *testing.T) {
	texts := []string{pathText, "edge(X,X):-path(X).", pathText, "edge(X,Y,Z):-path(X,Y,Z).", ""}
	facts := []string{"edge a b", "path c", "edge d e", "path f g h", ""}
	var engines []*axiom.Engine
	done := make([][]change, len(texts))
	for _, text := range texts {
		engines = append(engines, engineOf(t, text))
	}
	for round := range 4 {
		for i, e := range engines {
			c := change{}
			if facts[i] != "" && round%2 == 0 {
				c.come = []string{facts[i]}
			} else if facts[i] != "" {
				c.gone = []string{facts[i]}
			}
			applyChange(t, e, c, api.OK)
			done[i] = append(done[i], c)
			wantApply(t, e, list("other a"), nil, api.ErrFact)
		}
		for i, e := range engines {
			wantLog(t, e, logOf(digestOf(strings.ReplaceAll(texts[i], " ", "")), done[i]...))
		}
	}
}
