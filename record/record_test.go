package record

import (
	"crypto/sha256"
	"reflect"
	"strings"
	"testing"

	"axiom/api"
	"axiom/digest"
	"axiom/program"
)

func TestContent(t *testing.T) {
	edge := api.Fact{Pred: "edge", Args: []string{"né", "b"}}
	point := api.Fact{Pred: "p", Args: []string{"a"}}
	for _, c := range []struct {
		come, gone []api.Fact
		want       string
	}{
		{nil, nil, "\x00\x00"},
		{[]api.Fact{point}, nil, "\x01\x01p\x01a\x00"},
		{nil, []api.Fact{point}, "\x00\x01\x01p\x01a"},
		{[]api.Fact{point, edge, point}, []api.Fact{edge, edge}, "\x03\x01p\x01a\x04edge\x03né\x01b\x01p\x01a\x02\x04edge\x03né\x01b\x04edge\x03né\x01b"},
	} {
		if got := Content(c.come, c.gone); got != c.want {
			t.Errorf("Content(%v, %v) = %q, want %q", c.come, c.gone, got, c.want)
		}
	}
}

func TestHead(t *testing.T) {
	ahead := someHead()
	for _, content := range []string{"", "\x00\x00", "\x01\x01p\x01a\x00"} {
		want := digest.Digest(sha256.Sum256([]byte(string(ahead[:]) + content)))
		if got := Head(ahead, content); got != want {
			t.Errorf("Head(%q) = %x, want %x", content, got, want)
		}
	}
}

var preds = []program.Pred{{Name: "edge", Places: 2}, {Name: "p", Places: 1}}

func someHead() digest.Digest { return digest.Digest([]byte(strings.Repeat("h", digest.Size))) }

func TestAppend(t *testing.T) {
	head := someHead()
	long := strings.Repeat("c", 300)
	for content, want := range map[string]string{"": "log\x00", "\x00\x00": "log\x02\x00\x00", long: "log\xac\x02" + long} {
		if got := string(Append([]byte("log"), content, head)); got != want+string(head[:]) {
			t.Errorf("Append of %q = %q, want %q and the head", content, got, want)
		}
	}
}

func TestFirst(t *testing.T) {
	ahead := someHead()
	for _, content := range []string{"", "\x00\x00", strings.Repeat("c", 127), strings.Repeat("c", 128), strings.Repeat("c", 20000)} {
		whole := string(Append(nil, content, Head(ahead, content)))
		for _, rest := range []string{"", "\x00", "\xff", whole} {
			if got, size, ok := First(whole+rest, ahead); got != content || size != len(whole) || !ok {
				t.Errorf("First of %.40q = %.40q, %d, %v", whole+rest, got, size, ok)
			}
		}
		last := len(whole) - 1
		for _, torn := range []string{"", whole[:last], whole[:1], whole[1:], whole[:last] + string([]byte{whole[last] ^ 1}), "\x80" + whole} {
			if got, size, ok := First(torn, ahead); got != "" || size != 0 || ok {
				t.Errorf("First of %.40q = %.40q, %d, %v, want none", torn, got, size, ok)
			}
		}
		if _, _, ok := First(whole, Head(ahead, content)); ok {
			t.Errorf("First of %.40q fits another head", whole)
		}
	}
}

func TestFacts(t *testing.T) {
	edge := api.Fact{Pred: "edge", Args: []string{"né", "b"}}
	point := api.Fact{Pred: "p", Args: []string{"a"}}
	for _, c := range []struct{ come, gone []api.Fact }{
		{[]api.Fact{}, []api.Fact{}},
		{[]api.Fact{point}, []api.Fact{}},
		{[]api.Fact{}, []api.Fact{edge}},
		{[]api.Fact{point, edge, point}, []api.Fact{edge, edge}},
	} {
		content := Content(c.come, c.gone)
		come, gone, ok := Facts(content, preds)
		if !ok || !reflect.DeepEqual(come, c.come) || !reflect.DeepEqual(gone, c.gone) {
			t.Errorf("Facts(%q) = %v, %v, %v, want %v, %v", content, come, gone, ok, c.come, c.gone)
		}
	}
}

func TestNoFacts(t *testing.T) {
	for _, content := range []string{"", "\x00", "\x00\x00\x00", "\x01\x01p\x01a", "\x01\x01p\x00", "\x02\x01p\x01a\x00", "\x80\x00\x00", "\x01\x81\x00p\x01a\x00", "\x01\x04edge\x01a\x00", "\x01\x01p\x01a\x01b\x00", "\x01\x01k\x01a\x00", "\x41" + strings.Repeat("\x01p\x01a", 65) + "\x00", "\xff\xff\xff\x7f\x00", strings.Repeat("\xff", 100)} {
		if come, gone, ok := Facts(content, preds); ok || come != nil || gone != nil {
			t.Errorf("Facts(%q) = %v, %v, %v, want none", content, come, gone, ok)
		}
	}
	// What is read of another predicate has no names, so it is a fact of no program.
	if come, _, ok := Facts("\x01\x01k\x00", preds); ok && (len(come) != 1 || len(come[0].Args) != 0) {
		t.Errorf("Facts of another predicate = %v, %v", come, ok)
	}
}
