package axiom_test

import (
	"encoding/binary"
	"math/rand"
	"slices"
	"strings"
	"testing"

	"axiom/api"
	"axiom/axiom"
)

func wantReplayed(t *testing.T, export, log string, place int, want api.Errno) *axiom.Engine {
	t.Helper()
	e, at, err := axiom.Replay(export, log)
	if e == nil || at != place || err != want {
		t.Fatalf("P11: Replay(%.200q, %.400q) = %v, %d, %d, want an engine, %d, %d", export, log, e != nil, at, err, place, want)
	}
	wantLog(t, e, log[:place])
	return e
}

func wantNoReplay(t *testing.T, export, log string) {
	t.Helper()
	if e, at, err := axiom.Replay(export, log); e != nil || at != 0 || err != api.ErrBytes {
		t.Errorf("P11: Replay(%.200q, %.200q) = %v, %d, %d, want nil, 0, ErrBytes", export, log, e, at, err)
	}
}

// course is a log, the places where its records end, and the exports there; the first place is 0, with the export ahead of all records.
type course struct {
	log     string
	ends    []int
	exports []string
}

// courseOf lets changes come behind what an engine has; some may be refused.
func courseOf(e *axiom.Engine, changes ...change) course {
	ahead := e.Log()
	c := course{ends: []int{0}, exports: []string{e.Export()}}
	for _, change := range changes {
		if e.Apply(list(change.come...), list(change.gone...)) == api.OK {
			c.ends = append(c.ends, len(e.Log())-len(ahead))
			c.exports = append(c.exports, e.Export())
		}
	}
	c.log = e.Log()[len(ahead):]
	return c
}

// whole tells how many records end at a place or ahead of it.
func (c course) whole(place int) int {
	n := 0
	for n+1 < len(c.ends) && c.ends[n+1] <= place {
		n++
	}
	return n
}

// wantAsFar: of a log that is the course's up to the end of n records, and then is something else, these are gone through.
func (c course) wantAsFar(t *testing.T, log string, n int, want api.Errno) *axiom.Engine {
	t.Helper()
	e := wantReplayed(t, c.exports[0], log, c.ends[n], want)
	wantExport(t, e, c.exports[n])
	return e
}

// wantCuts goes through each first part of the log.
func (c course) wantCuts(t *testing.T) {
	t.Helper()
	for size := range len(c.log) + 1 {
		n, want := c.whole(size), api.ErrTorn
		if c.ends[n] == size {
			want = api.OK
		}
		c.wantAsFar(t, c.log[:size], n, want)
	}
}

// pathCourse has records of all kinds, one of them with a content of more than 127 bytes.
func pathCourse(t *testing.T) course {
	e := engineOf(t, pathText)
	wantApply(t, e, list("edge a b"), nil, api.OK)
	c := courseOf(e,
		change{[]string{"edge b c", "path é z", "edge b c"}, nil},
		change{},
		change{slices.Repeat([]string{"edge c d", "edge d a"}, 6), []string{"edge a b", "path é z"}},
		change{nil, []string{"edge c d"}},
		change{[]string{"edge a b", "edge x"}, nil}, // refused
		change{[]string{"path q q"}, []string{"path q q"}},
	)
	if len(c.ends) != 6 {
		t.Fatalf("the course has %d ends", len(c.ends))
	}
	return c
}

func TestP11EveryCut(t *testing.T) {
	pathCourse(t).wantCuts(t)
	courseOf(engineOf(t, ""), change{}, change{}, change{}).wantCuts(t)
	courseOf(engineOf(t, "p(X):-q(X)."), longChange(127), longChange(128), longChange(257)).wantCuts(t)
}

// TestP11EveryByteTurned: in the length, in the content and in the digest; the record that has it is not gone through, nor are those behind it.
func TestP11EveryByteTurned(t *testing.T) {
	c := pathCourse(t)
	for at := range len(c.log) {
		for _, bits := range []byte{1, 2, 4, 8, 16, 32, 64, 128, 255} {
			turned := c.log[:at] + string([]byte{c.log[at] ^ bits}) + c.log[at+1:]
			c.wantAsFar(t, turned, c.whole(at), api.ErrTorn)
		}
	}
}

// TestP11BytesOutAndIn takes out each byte, and puts one in ahead of it: up to the record where that is first seen all is gone through.
func TestP11BytesOutAndIn(t *testing.T) {
	c := pathCourse(t)
	try := func(changed string) {
		seen := 0
		for seen < min(len(changed), len(c.log)) && changed[seen] == c.log[seen] {
			seen++
		}
		c.wantAsFar(t, changed, c.whole(seen), api.ErrTorn)
	}
	for at := range len(c.log) {
		try(c.log[:at] + c.log[at+1:])
		for _, b := range []byte{0, 1, 2, 0x80, 0xff} {
			try(c.log[:at] + string([]byte{b}) + c.log[at:])
		}
	}
	for _, b := range []string{"\x00", "\x02", "\xff", "\x02\x00\x00", c.log, strings.Repeat("\x00", 1000)} {
		try(c.log + b)
	}
}

// TestP11Chain: records that are whole by themselves, but stand in another place than the one they were written for.
func TestP11Chain(t *testing.T) {
	c := pathCourse(t)
	last := len(c.ends) - 1
	part := func(n int) string { return c.log[c.ends[n-1]:c.ends[n]] }
	c.wantAsFar(t, part(2)+part(1), 0, api.ErrTorn)
	c.wantAsFar(t, part(1)+part(1), 1, api.ErrTorn)
	c.wantAsFar(t, part(1)+part(2)+part(2)+part(3), 2, api.ErrTorn)
	c.wantAsFar(t, part(1)+part(3), 1, api.ErrTorn)
	c.wantAsFar(t, part(1)+part(2)+part(4)+part(3), 2, api.ErrTorn)
	for n := 1; n <= last; n++ {
		// The log of the whole fits no export of the way, but the rest of the log does.
		if e := wantReplayed(t, c.exports[n], c.log, 0, api.ErrTorn); e.Export() != c.exports[n] {
			t.Errorf("P11: the export is %q, want %q", e.Export(), c.exports[n])
		}
		rest := c.log[c.ends[n]:]
		wantExport(t, wantReplayed(t, c.exports[n], rest, len(rest), api.OK), c.exports[last])
		// The same state with another head.
		other := body(c.exports[n-1]) + someHead
		wantExport(t, wantReplayed(t, other, c.log[c.ends[n-1]:], 0, api.ErrTorn), other)
	}
}

// TestP11NotApplied: records with the right digest, whose Apply is refused.
func TestP11NotApplied(t *testing.T) {
	text := "s(X,Y):-m(X),m(Y). u(X):-w(X)."
	e := engineOf(t, text)
	c := courseOf(e, change{textsOf(numbered("m", 13)), nil}, change{textsOf(numbered("u", 18)), nil})
	held, _ := e.All("s")
	same := slices.Repeat([]string{"m n00"}, 128)
	for what, bad := range map[string]struct {
		change
		err api.Errno
	}{
		"more than may come":           {change{same[:65], nil}, api.ErrMany},
		"more than may go":             {change{nil, same[:65]}, api.ErrMany},
		"more than may come and go":    {change{same[:33], same[:32]}, api.ErrMany},
		"a number of two bytes":        {change{same, nil}, api.ErrMany},
		"another predicate":            {change{[]string{"k a"}, nil}, api.ErrFact},
		"another predicate that goes":  {change{nil, []string{"m a", "k a"}}, api.ErrFact},
		"another predicate alone":      {change{[]string{"k"}, nil}, api.ErrFact},
		"a variable":                   {change{[]string{"m X"}, nil}, api.ErrFact},
		"a name too long":              {change{nil, []string{"m abcdefg"}}, api.ErrFact},
		"a name that is none":          {change{[]string{"m n00", "m a_"}, nil}, api.ErrFact},
		"no code point":                {change{[]string{"m \xff"}, nil}, api.ErrFact},
		"a capital ahead":              {change{[]string{"M a"}, nil}, api.ErrFact},
		"a place too few":              {change{[]string{"s a"}, nil}, api.ErrFact},
		"a place too many":             {change{[]string{"m a b"}, nil}, api.ErrFact},
		"more given than may":          {change{textsOf(held[:10]), nil}, api.ErrFull},
		"one more that holds":          {change{[]string{"u x"}, nil}, api.ErrFull},
		"what follows above the limit": {change{[]string{"m x"}, nil}, api.ErrFull},
	} {
		t.Run(what, func(t *testing.T) {
			applyChange(t, e, bad.change, bad.err)
			log := c.log + logOf(headAhead(c.log), bad.change)
			c.wantAsFar(t, log, 2, api.ErrTorn)
			// Nor is what stands behind it gone through, though it is chained to it.
			c.wantAsFar(t, log+logOf(headAhead(log), change{}), 2, api.ErrTorn)
		})
	}
	// Up to the limits records can be gone through, and so can those refused as too much, where less is given.
	start := engineOf(t, text).Export()
	for _, good := range []change{{same[:64], nil}, {nil, same[:64]}, {same[:32], same[:32]}, {textsOf(held[:10]), nil}, {[]string{"u x"}, nil}, {[]string{"m x"}, nil}} {
		log := logOf(headAhead(start), good)
		wantReplayed(t, start, log, len(log), api.OK)
	}
	c.wantAsFar(t, c.log, 2, api.OK)
}

func textsOf(facts []api.Fact) []string {
	var texts []string
	for _, f := range facts {
		texts = append(texts, f.Pred+" "+strings.Join(f.Args, " "))
	}
	return texts
}

// TestP11MaxFacts: forty facts by one record, and one more by another.
func TestP11MaxFacts(t *testing.T) {
	start := engineOf(t, "p(X):-q(X).").Export()
	facts := textsOf(numbered("q", api.MaxFacts+1))
	wantReplayed(t, start, logOf(headAhead(start), change{facts, nil}), 0, api.ErrTorn)
	full := logOf(headAhead(start), change{facts[:api.MaxFacts], nil})
	e := wantReplayed(t, start, full, len(full), api.OK)
	again := wantReplayed(t, start, full+logOf(headAhead(full), change{facts[api.MaxFacts:], nil}), len(full), api.ErrTorn)
	wantExport(t, again, e.Export())
	more := full + logOf(headAhead(full), change{facts[api.MaxFacts:], facts[:1]})
	wantReplayed(t, start, more, len(more), api.OK)
}

// TestP11Lengths: a length that is no number, or not of a content that is there.
func TestP11Lengths(t *testing.T) {
	start := engineOf(t, "p(X):-q(X).").Export()
	head := headAhead(start)
	for _, content := range []string{"\x00\x00", contentOf([]string{"p a"}, nil), contentOf(longChange(127).come, nil), contentOf(longChange(128).come, nil), contentOf(longChange(257).come, nil)} {
		right := digestOf(head + content)
		good := pack(content) + right
		wantReplayed(t, start, good, len(good), api.OK)
		size := pack(len(content))
		wide := size[:len(size)-1] + string([]byte{size[len(size)-1] | 0x80})
		for _, length := range []string{"", wide, wide + "\x00", wide + "\x80\x00", wide + "\x80\x80\x00", wide + strings.Repeat("\x80", 8) + "\x00", wide + strings.Repeat("\x80", 100) + "\x00", wide + strings.Repeat("\x80", 8) + "\x02", pack(len(content) + 1), pack(len(content) + headSize), pack(len(content) + headSize + 1), pack(len(content) - 1), pack(0), pack(1 << 27), pack(1 << 28), pack(1 << 31), pack(1 << 32), pack(1<<32 + len(content)), pack(1<<62 + len(content)), strings.Repeat("\xff", 9) + "\x01", strings.Repeat("\xff", 20)} {
			wantReplayed(t, start, length+content+right, 0, api.ErrTorn)
			wantReplayed(t, start, good+length+content+digestOf(right+content), len(good), api.ErrTorn)
		}
	}
	for _, log := range []string{"\x00", "\x01", "\x02\x00\x00", "\x80", "\xff", "\x00" + digestOf(head), "\x02\x00\x00" + digestOf("\x00\x00"), "\x02\x00\x00" + digestOf(head+"\x02\x00\x00"), "\x02\x00\x00" + head, digestOf(head + "\x00\x00"), "\x00\x00" + digestOf(head+"\x00\x00")} {
		wantReplayed(t, start, log, 0, api.ErrTorn)
	}
}

// TestP11Contents: the digest is right, whatever the content is.
func TestP11Contents(t *testing.T) {
	start := engineOf(t, "e(X,Y):-f(Y,X). t(X,Y,Z):-p(X),e(Y,Z).").Export()
	head := headAhead(start)
	ab := pack("e", "a", "b")
	for _, good := range []string{pack(0, 0), pack(1) + ab + pack(0), pack(0, 1) + ab, pack(2) + ab + ab + pack(1) + ab, pack(3, "p", "a", "t", "a", "b", "c", "e", "e", "p", 1, "p", "p")} {
		log := recordOf(head, good)
		wantReplayed(t, start, log, len(log), api.OK)
		for _, bad := range []string{good + "\x00", good + "\x01", good + ab, good + good, "\x00" + good, good[:len(good)-1], good[1:]} {
			wantReplayed(t, start, recordOf(head, bad), 0, api.ErrTorn)
		}
		for n := range len(good) {
			wantReplayed(t, start, recordOf(head, good[:n]), 0, api.ErrTorn)
		}
	}
	for what, bad := range map[string]string{
		"nothing":                        "",
		"what came alone":                "\x00",
		"a fact too few":                 pack(2) + ab + pack(0),
		"a fact too many":                pack(1) + ab + ab + pack(0),
		"a fact that goes too few":       pack(0, 2) + ab,
		"a fact that goes too many":      pack(0, 1) + ab + ab,
		"no number for what goes":        pack(1) + ab,
		"0 in two bytes":                 "\x80\x00\x00",
		"the second 0 in two bytes":      "\x00\x80\x00",
		"1 in two bytes":                 "\x81\x00" + ab + "\x00",
		"1 that goes in two bytes":       "\x00\x81\x00" + ab,
		"a predicate's length in two":    "\x01\x81\x00e\x01a\x01b\x00",
		"a name's length in two bytes":   "\x01\x01e\x81\x00a\x01b\x00",
		"the last name's length in two":  "\x00\x01\x01e\x01a\x81\x00b",
		"a name of no bytes":             pack(1, "e", "a", "", 0),
		"a predicate of no bytes":        pack(1, "", "a", "b", 0),
		"a predicate of no bytes alone":  pack(1, "", 0),
		"a name longer than what's left": "\x01\x01e\x01a\x09b\x00",
		"a great name":                   pack(1, "e", "a") + pack(1<<40) + "b\x00",
		"great numbers":                  pack(1<<62, 1<<62),
		"a great number of facts":        pack(1<<20) + strings.Repeat(ab, 100) + pack(0),
		"a great number that goes":       pack(0, 1<<20) + strings.Repeat(ab, 100),
		"numbers that do not end":        strings.Repeat("\xff", 200),
		"a record":                       recordOf(head, "\x00\x00"),
		"as many places as another has":  pack(1, "p", "a", "b", 0),
		"names ahead of the predicate":   pack(1, "a", "b", "e", 0),
	} {
		t.Run(what, func(t *testing.T) {
			wantExport(t, wantReplayed(t, start, recordOf(head, bad), 0, api.ErrTorn), start)
		})
	}
}

// TestP11ContentBytes turns each byte of a content and makes the digest anew: what is gone through is then what another Apply writes.
func TestP11ContentBytes(t *testing.T) {
	start := engineOf(t, "e(X,Y):-f(Y,X). t(X,Y,Z):-p(X),e(Y,Z).").Export()
	content := contentOf([]string{"e a bé", "p a", "t a b c"}, []string{"f x1 y", "p b"})
	taken := 0
	for at := range len(content) {
		for b := range 256 {
			turned := content[:at] + string([]byte{byte(b)}) + content[at+1:]
			log := recordOf(headAhead(start), turned)
			if wantSomeReplay(t, start, log) == len(log) {
				taken++
			}
		}
	}
	if taken < 300 {
		t.Errorf("P11: only %d of the changed contents were taken", taken)
	}
}

// wantSomeReplay holds a Replay against Import and Apply themselves, and gives its place: the records up to there are read here by other means.
func wantSomeReplay(t *testing.T, export, log string) int {
	t.Helper()
	e, place, err := axiom.Replay(export, log)
	beside, importErr := axiom.Import(export)
	if importErr != api.OK {
		if e != nil || place != 0 || err != api.ErrBytes {
			t.Fatalf("P11: Replay(%q, %q) = %v, %d, %d", export, log, e != nil, place, err)
		}
		return 0
	}
	if e == nil || place < 0 || place > len(log) || (err == api.OK) != (place == len(log)) || err != api.OK && err != api.ErrTorn {
		t.Fatalf("P11: Replay(%q, %q) = %v, %d, %d", export, log, e != nil, place, err)
	}
	wantLog(t, e, log[:place])
	places := placesOf(export)
	for rest := log[:place]; rest != ""; {
		size, n := binary.Uvarint([]byte(rest))
		come, gone := readContent(rest[n:n+int(size)], places)
		wantApply(t, beside, come, gone, api.OK)
		rest = rest[n+int(size)+headSize:]
	}
	wantLog(t, beside, log[:place])
	wantExport(t, e, beside.Export())
	return place
}

// placesOf tells how many places each predicate of an export's program has.
func placesOf(export string) map[string]int {
	size, n := binary.Uvarint([]byte(export))
	plain := export[n : n+int(size)]
	places := map[string]int{}
	for _, part := range strings.Split(plain, ")") {
		if pred, terms, ok := strings.Cut(strings.TrimLeft(part, ".,:-"), "("); ok {
			places[pred] = strings.Count(terms, ",") + 1
		}
	}
	return places
}

// readContent takes it for granted that the content is one.
func readContent(content string, places map[string]int) (come, gone []api.Fact) {
	number := func() int {
		n, size := binary.Uvarint([]byte(content))
		content = content[size:]
		return int(n)
	}
	text := func() string {
		size := number()
		s := content[:size]
		content = content[size:]
		return s
	}
	var lists [2][]api.Fact
	for i := range lists {
		for range number() {
			f := api.Fact{Pred: text()}
			for range places[f.Pred] {
				f.Args = append(f.Args, text())
			}
			lists[i] = append(lists[i], f)
		}
	}
	return lists[0], lists[1]
}

func TestP11RefusedExport(t *testing.T) {
	c := pathCourse(t)
	start := c.exports[0]
	for _, export := range []string{"", c.log, start + "\x00", "\x00" + start, start[1:], body(start), start + start, strings.Repeat("\x00", headSize), pack("p(a).", 0, 0) + someHead, pack("p(a). ", 1, "a", 1, 0, 1, 0) + someHead, pack("p(X):-p(X).", 1, "a", 1, 0, 1, 0) + someHead} {
		for _, log := range []string{"", c.log, c.log[:1], "\xff", logOf(someHead, change{})} {
			wantNoReplay(t, export, log)
		}
	}
	for n := range len(start) {
		wantNoReplay(t, start[:n], c.log)
	}
}

// TestP11GoesOn: the log of what Replay gave has the records that were gone through, and goes on behind them, also if the rest was torn; and what it writes can be gone through again.
func TestP11GoesOn(t *testing.T) {
	c := pathCourse(t)
	more := []change{{[]string{"edge b z"}, nil}, {nil, []string{"edge b c", "edge b z"}}, {}}
	for n, end := range c.ends {
		for _, torn := range []string{"", "\x02", "\x02\x00\x00" + someHead, "\xff\xff\xff"} {
			want := api.OK
			if torn != "" {
				want = api.ErrTorn
			}
			e := c.wantAsFar(t, c.log[:end]+torn, n, want)
			taken := wantTaken(t, c.exports[n])
			for i, m := range more {
				applyChange(t, e, m, api.OK)
				applyChange(t, e, change{[]string{"edge x"}, nil}, api.ErrFact)
				applyChange(t, taken, m, api.OK)
				wantLog(t, e, c.log[:end]+logOf(headAhead(c.exports[n]), more[:i+1]...))
				wantLog(t, taken, e.Log()[end:])
				wantExport(t, e, taken.Export())
			}
			log := e.Log()
			again := wantReplayed(t, c.exports[0], log, len(log), api.OK)
			wantExport(t, again, e.Export())
		}
	}
}

// TestP12Replay: of an export and the log that came behind it, the state behind it, over many programs and changes; of any first part the one behind its whole records; and the engine answers alike, then too when more comes.
func TestP12Replay(t *testing.T) {
	r := rand.New(rand.NewSource(11))
	names := []string{"a", "b", "c"}
	refused := 0
	for range 120 {
		o := oracle{someRules(r), map[string]bool{}}
		e := engineOf(t, o.text())
		facts := o.everyFact(names)
		some := func() change { return change{someFacts(r, facts, r.Intn(45)), someFacts(r, facts, r.Intn(6))} }
		states := []oracle{o}
		var changes []change
		for range 6 {
			c := some()
			next, err := o.apply(c.come, c.gone)
			o = next
			changes = append(changes, c)
			if err == api.OK {
				states = append(states, o)
			} else {
				refused++
			}
		}
		c := courseOf(e, changes...)
		if len(c.ends) != len(states) {
			t.Fatalf("P10: %d records, want %d", len(c.ends)-1, len(states)-1)
		}
		for n := range c.ends {
			rest := c.log[c.ends[n]:]
			wantExport(t, wantReplayed(t, c.exports[n], rest, len(rest), api.OK), e.Export())
			wantLike(t, c.wantAsFar(t, c.log[:c.ends[n]], n, api.OK), states[n], names)
		}
		for range 20 {
			size := r.Intn(len(c.log) + 1)
			if n := c.whole(size); c.ends[n] != size {
				c.wantAsFar(t, c.log[:size], n, api.ErrTorn)
			}
		}
		again := wantReplayed(t, c.exports[0], c.log, len(c.log), api.OK)
		for range 2 {
			m := some()
			next, err := o.apply(m.come, m.gone)
			o = next
			applyChange(t, e, m, err)
			applyChange(t, again, m, err)
			wantLike(t, again, o, names)
			wantExport(t, again, e.Export())
			wantLog(t, again, e.Log())
		}
	}
	if refused < 5 {
		t.Errorf("only %d changes were refused", refused)
	}
}

// TestP2ReplayNotKept writes over the export and the log that were handed in.
func TestP2ReplayNotKept(t *testing.T) {
	c := pathCourse(t)
	last := len(c.ends) - 1
	export, exportBytes := written(c.exports[0])
	log, logBytes := written(c.log)
	e, place, err := axiom.Replay(export, log)
	if e == nil || place != len(c.log) || err != api.OK || export != c.exports[0] || log != c.log {
		t.Fatalf("P2: Replay = %v, %d, %d, of %q, %q", e != nil, place, err, export, log)
	}
	told := e.Log()
	for _, bytes := range [][]byte{exportBytes, logBytes} {
		for i := range bytes {
			bytes[i] = 'z'
		}
	}
	if told != c.log {
		t.Errorf("P2: the log is %q, want %q", told, c.log)
	}
	wantLog(t, e, c.log)
	wantExport(t, e, c.exports[last])
	wantApply(t, e, list("edge a z"), nil, api.OK)
	wantLog(t, e, c.log+logOf(headAhead(c.log), change{[]string{"edge a z"}, nil}))
	wantTruth(t, e, "path a z", false, true, 1)
}

// TestP2ReplayedBesideOneAnother: engines of several programs, each with its own log, whatever was gone through ahead.
func TestP2ReplayedBesideOneAnother(t *testing.T) {
	texts := []string{pathText, "edge(X,X):-path(X).", pathText, "path(X,Y,Z):-edge(Z,Y,X)."}
	facts := []string{"edge a b", "path c", "edge d e", "edge f g h"}
	var courses []course
	for i, text := range texts {
		courses = append(courses, courseOf(engineOf(t, text), change{[]string{facts[i]}, nil}, change{}, change{nil, []string{facts[i]}}, change{[]string{facts[i], facts[i]}, nil}))
	}
	var engines []*axiom.Engine
	for i, c := range courses {
		engines = append(engines, c.wantAsFar(t, c.log, 4, api.OK), c.wantAsFar(t, c.log[:c.ends[2]+5], 2, api.ErrTorn))
		other := courses[(i+1)%len(courses)]
		if e := wantReplayed(t, other.exports[0], c.log, 0, api.ErrTorn); e.Export() != other.exports[0] {
			t.Errorf("P11: a log of another program gave %q", e.Export())
		}
		wantNoReplay(t, c.log, other.exports[0])
	}
	for i, c := range courses {
		whole, part := engines[2*i], engines[2*i+1]
		wantApply(t, part, nil, list(facts[i]), api.OK)
		wantExport(t, part, c.exports[3])
		wantLog(t, part, c.log[:c.ends[3]])
		wantExport(t, whole, c.exports[4])
		wantLog(t, whole, c.log)
		wantApply(t, part, list(facts[i], facts[i]), nil, api.OK)
		wantExport(t, part, c.exports[4])
		wantLog(t, part, c.log)
	}
	for i, c := range courses { // once more, behind all of these
		c.wantCuts(t)
		wantExport(t, engines[2*i], c.exports[4])
	}
}

// TestP2SamePrograms: records of two engines of one program to which the same came are the same, wherever the engine is from.
func TestP2SamePrograms(t *testing.T) {
	changes := []change{{[]string{"edge a b"}, nil}, {[]string{"edge b c"}, []string{"edge a b"}}, {}}
	a := courseOf(engineOf(t, pathText), changes...)
	b := courseOf(engineOf(t, " "+strings.ReplaceAll(pathText, " ", "\n")+" "), changes...)
	c := courseOf(wantTaken(t, a.exports[0]), changes...)
	if a.log != b.log || a.log != c.log || !slices.Equal(a.exports, b.exports) || !slices.Equal(a.exports, c.exports) {
		t.Errorf("P12: the logs are %q, %q, %q", a.log, b.log, c.log)
	}
}

// TestP1ReplayOfMuch: long strings, great numbers, and many records.
func TestP1ReplayOfMuch(t *testing.T) {
	start := engineOf(t, "p(X):-p(X).").Export()
	head := headAhead(start)
	much := strings.Repeat("\x01\x01p\x01a\x00", 1<<18)
	for _, log := range []string{much, strings.Repeat("\xff", 1<<20), strings.Repeat("\x80", 1<<20), strings.Repeat("\x00", 1<<20), recordOf(head, much), recordOf(head, pack(1<<18)+much), recordOf(head, pack(1<<18)+strings.Repeat(pack("p", "a"), 1<<18)+pack(0)), recordOf(head, pack(1, "p", strings.Repeat("a", 1<<20), 0)), recordOf(head, pack(1, strings.Repeat("p", 1<<20), "a", 0)), recordOf(head, strings.Repeat("\x00", 1<<20))} {
		wantReplayed(t, start, log, 0, api.ErrTorn)
		wantNoReplay(t, log, log)
	}
	changes := make([]change, 20000)
	for i := range changes {
		if i%2 == 0 {
			changes[i].come = []string{"p a"}
		} else {
			changes[i].gone = []string{"p a"}
		}
	}
	log := logOf(head, changes...)
	e := wantReplayed(t, start, log, len(log), api.OK)
	wantAll(t, e, "p")
	if got := headOf(e); got != headAhead(log) {
		t.Errorf("P10: the head is %q, want %q", got, headAhead(log))
	}
	wantReplayed(t, start, log[:len(log)-1], len(log)-headSize-len(pack(contentOf(nil, []string{"p a"}))), api.ErrTorn)
}

// TestP1ReplayOfSomeBytes: pieces of records in any order.
func TestP1ReplayOfSomeBytes(t *testing.T) {
	c := pathCourse(t)
	r := rand.New(rand.NewSource(4))
	for range 3000 {
		log := ""
		for range r.Intn(6) {
			from := r.Intn(len(c.log))
			switch r.Intn(4) {
			case 0:
				from = 0
			case 1:
				from = c.ends[r.Intn(len(c.ends))]
			}
			to := from + r.Intn(len(c.log)-from+1)
			if r.Intn(2) == 0 {
				to = c.ends[len(c.ends)-1]
			}
			log += c.log[from:to]
		}
		wantSomeReplay(t, c.exports[r.Intn(len(c.exports))], log)
	}
}

func FuzzReplay(f *testing.F) {
	export := pack("z(X,Y):-m(X),m(Y).", 1, "a", 1, 1, 0, 0, 1, 0, 1, 0, 0) + someHead
	f.Add(export, contentOf([]string{"m b", "z a a"}, []string{"m a"}), "\x02")
	f.Add(export, "\x00\x00", recordOf(digestOf(someHead+"\x00\x00"), "\x00\x00"))
	f.Fuzz(func(t *testing.T, export, content, rest string) {
		wantSomeReplay(t, export, content+rest)
		if len(export) >= headSize { // with the right digest more of the content is reached
			wantSomeReplay(t, export, recordOf(headAhead(export), content)+rest)
		}
	})
}
