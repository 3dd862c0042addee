package encode

import (
	"encoding/binary"
	"math"
	"strings"
	"testing"
)

func TestAppendNumber(t *testing.T) {
	for n, want := range map[int]string{0: "\x00", 1: "\x01", 127: "\x7f", 128: "\x80\x01", 300: "\xac\x02", 16383: "\xff\x7f", 16384: "\x80\x80\x01", 320000: "\x80\xc4\x13"} {
		if got := string(AppendNumber([]byte("x"), n)); got != "x"+want {
			t.Errorf("AppendNumber(x, %d) = %q, want x and %q", n, got, want)
		}
	}
	for n := range 70000 {
		if got, want := string(AppendNumber(nil, n)), string(binary.AppendUvarint(nil, uint64(n))); got != want {
			t.Fatalf("AppendNumber(%d) = %q, want %q", n, got, want)
		}
	}
}

func TestAppendText(t *testing.T) {
	long := strings.Repeat("é", 100)
	for text, want := range map[string]string{"": "x\x00", "ab": "x\x02ab", "né": "x\x03né", long: "x\xc8\x01" + long} {
		if got := string(AppendText([]byte("x"), text)); got != want {
			t.Errorf("AppendText(x, %q) = %q, want %q", text, got, want)
		}
	}
}

func TestNumbersReadAgain(t *testing.T) {
	var b []byte
	for n := range 70000 {
		b = AppendNumber(b, n)
	}
	b = AppendNumber(b, 1<<28-1)
	r := NewReader(string(b))
	for n := range 70000 {
		if got := r.Number(n); got != n || r.Failed() {
			t.Fatalf("Number = %d, %v, want %d", got, r.Failed(), n)
		}
	}
	if got := r.Number(math.MaxInt); got != 1<<28-1 || r.Failed() || r.Rest() != "" {
		t.Errorf("the last Number = %d, %v", got, r.Failed())
	}
}

func TestNoNumber(t *testing.T) {
	for _, s := range []string{"", "\x80", "\xff\xff", "\x80\x00", "\x81\x00", "\x80\x80\x00", "\xff\x80\x00", "\x80\x80\x80\x80\x01", "\xff\xff\xff\xff\xff\xff\xff\xff\xff\x01", strings.Repeat("\xff", 1000), strings.Repeat("\x80", 1000) + "\x01"} {
		r := NewReader(s)
		if got := r.Number(math.MaxInt); got != 0 || !r.Failed() {
			t.Errorf("Number of %.40q = %d, %v, want none", s, got, r.Failed())
		}
	}
	for _, most := range []int{-1, 0, 127, 299} {
		r := NewReader("\xac\x02")
		if got := r.Number(most); got != 0 || !r.Failed() {
			t.Errorf("Number(%d) of 300 = %d, %v, want none", most, got, r.Failed())
		}
	}
}

func TestText(t *testing.T) {
	r := NewReader("\x02ab\x00\x03n\xc3\xa9\x01")
	for _, want := range []string{"ab", "", "né"} {
		if got := r.Text(); got != want || r.Failed() {
			t.Errorf("Text = %q, %v, want %q", got, r.Failed(), want)
		}
	}
	if got := r.Text(); got != "" || !r.Failed() {
		t.Errorf("Text of a byte that is not there = %q, %v", got, r.Failed())
	}
	r = NewReader("\x02ab")
	if got := r.Text(); got != "ab" || r.Failed() || r.Rest() != "" {
		t.Errorf("Text up to the end = %q, %v", got, r.Failed())
	}
	for _, s := range []string{"", "\x03ab", "\x82\x00ab", "\xff\xff\xff\x7fab", "\xff\xff\xff\xff\xff\xff\xff\xff\x7fab"} {
		r := NewReader(s)
		if got := r.Text(); got != "" || !r.Failed() {
			t.Errorf("Text of %q = %q, %v, want none", s, got, r.Failed())
		}
	}
}

// TestBehindAFault: what comes then is not read, even if it could be.
func TestBehindAFault(t *testing.T) {
	r := NewReader("\x02\x01a\x05")
	r.Number(1)
	if n, text := r.Number(9), r.Text(); n != 0 || text != "" || !r.Failed() {
		t.Errorf("behind a fault: %d, %q, %v", n, text, r.Failed())
	}
}

func TestRest(t *testing.T) {
	r := NewReader("\xac\x02\x02ab\x03c")
	if r.Rest() != "\xac\x02\x02ab\x03c" {
		t.Errorf("Rest ahead of all = %q", r.Rest())
	}
	r.Number(300)
	if r.Rest() != "\x02ab\x03c" {
		t.Errorf("Rest behind a number = %q", r.Rest())
	}
	r.Text()
	if r.Rest() != "\x03c" || r.Failed() {
		t.Errorf("Rest behind a text = %q, %v", r.Rest(), r.Failed())
	}
}
