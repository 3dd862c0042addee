package digest

import (
	"crypto/sha256"
	"encoding/hex"
	"strings"
	"testing"
)

// TestOfExamples: the examples that NIST gives beside FIPS 180-4.
func TestOfExamples(t *testing.T) {
	for text, want := range map[string]string{
		"":    "e3b0c44298fc1c149afbf4c8996fb92427ae41e4649b934ca495991b7852b855",
		"abc": "ba7816bf8f01cfea414140de5dae2223b00361a396177a9cb410ff61f20015ad",
		"abcdbcdecdefdefgefghfghighijhijkijkljklmklmnlmnomnopnopq": "248d6a61d20638b8e5c026930c3e6039a33ce45964ff2167f6ecedd419db06c1",
		strings.Repeat("a", 1000000):                               "cdc76e5c9914fb9281a1c7e284d73e67f1809a48a497200e046d39ccc7112cd0",
	} {
		d := Of(text)
		if got := hex.EncodeToString(d[:]); got != want {
			t.Errorf("Of(%.60q) = %s, want %s", text, got, want)
		}
	}
}

// TestOfEveryLength: over the edges of some blocks, with bytes of all kinds.
func TestOfEveryLength(t *testing.T) {
	var b []byte
	for i := range 1000 {
		if got, want := Of(string(b)), Digest(sha256.Sum256(b)); got != want {
			t.Fatalf("Of(%x) = %x, want %x", b, got, want)
		}
		b = append(b, byte(i*i*7+i*31+i>>8))
	}
}
