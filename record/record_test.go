package record

import (
	"crypto/sha256"
	"strings"
	"testing"

	"axiom/api"
	"axiom/digest"
)

func TestContent(t *testing.T) {
	edge := api.Fact{Pred: "edge", Args: []string{"né", "b"}}
	point := api.Fact{Pred: "p", Args: []string{"a"}}
	for _, c := range []struct {
		come, gone []api.Fact
		want       string
	}{
		{nil, nil, "\x00\x00"},
		{[]api.Fact{point}, nil, "\x01\x01p\x01a\x00"},
		{nil, []api.Fact{point}, "\x00\x01\x01p\x01a"},
		{[]api.Fact{point, edge, point}, []api.Fact{edge, edge}, "\x03\x01p\x01a\x04edge\x03né\x01b\x01p\x01a\x02\x04edge\x03né\x01b\x04edge\x03né\x01b"},
	} {
		if got := Content(c.come, c.gone); got != c.want {
			t.Errorf("Content(%v, %v) = %q, want %q", c.come, c.gone, got, c.want)
		}
	}
}

func TestHead(t *testing.T) {
	ahead := digest.Digest([]byte(strings.Repeat("h", digest.Size)))
	for _, content := range []string{"", "\x00\x00", "\x01\x01p\x01a\x00"} {
		want := digest.Digest(sha256.Sum256([]byte(string(ahead[:]) + content)))
		if got := Head(ahead, content); got != want {
			t.Errorf("Head(%q) = %x, want %x", content, got, want)
		}
	}
}
