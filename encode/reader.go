package encode

import "math"

// maxSize is how many bytes a number may have: more than any that is written needs, and few enough for int on every machine.
const maxSize = 4

// Reader takes numbers and texts from the front of some bytes. Behind the first that is none it gives zeros and empty texts alone, so that it need not be asked at each step.
type Reader struct {
	rest   string
	failed bool
}

// NewReader makes a reader of bytes.
func NewReader(s string) *Reader { return &Reader{rest: s} }

// Failed tells whether there was something that could not be read.
func (r *Reader) Failed() bool { return r.failed }

// Rest gives the bytes that are not read yet.
func (r *Reader) Rest() string { return r.rest }

// Number reads a number; a greater one than the most is none.
func (r *Reader) Number(most int) int {
	n, size := firstNumber(r.rest)
	if r.failed || size == 0 || n > most {
		r.failed = true
		return 0
	}
	r.rest = r.rest[size:]
	return n
}

// firstNumber gives the number and its size, which is 0 if there is none in as few bytes as can be.
func firstNumber(s string) (int, int) {
	n := 0
	for i := range min(len(s), maxSize) {
		b := s[i]
		n |= int(b&lowBits) << (7 * i)
		if b == 0 && i > 0 {
			return 0, 0
		}
		if b&more == 0 {
			return n, i + 1
		}
	}
	return 0, 0
}

// Text reads a text; it is a piece of the bytes, not new memory.
func (r *Reader) Text() string {
	size := r.Number(math.MaxInt)
	if size > len(r.rest) {
		r.failed = true
		return ""
	}
	text := r.rest[:size]
	r.rest = r.rest[size:]
	return text
}
