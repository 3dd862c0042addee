// Package digest works out the SHA-256 of bytes, as FIPS 180-4 says it.
package digest

import "math/bits"

// Size is how many bytes a digest has.
const Size = 32

// Digest is an array, so that none shares memory with another.
type Digest [Size]byte

const (
	blockSize  = 64
	lengthSize = 8 // of the length that ends the last block
)

// roundWords begin as the fractions of the cube roots of the first 64 primes do (FIPS 180-4, 4.2.2).
var roundWords = [64]uint32{
	0x428a2f98, 0x71374491, 0xb5c0fbcf, 0xe9b5dba5, 0x3956c25b, 0x59f111f1, 0x923f82a4, 0xab1c5ed5,
	0xd807aa98, 0x12835b01, 0x243185be, 0x550c7dc3, 0x72be5d74, 0x80deb1fe, 0x9bdc06a7, 0xc19bf174,
	0xe49b69c1, 0xefbe4786, 0x0fc19dc6, 0x240ca1cc, 0x2de92c6f, 0x4a7484aa, 0x5cb0a9dc, 0x76f988da,
	0x983e5152, 0xa831c66d, 0xb00327c8, 0xbf597fc7, 0xc6e00bf3, 0xd5a79147, 0x06ca6351, 0x14292967,
	0x27b70a85, 0x2e1b2138, 0x4d2c6dfc, 0x53380d13, 0x650a7354, 0x766a0abb, 0x81c2c92e, 0x92722c85,
	0xa2bfe8a1, 0xa81a664b, 0xc24b8b70, 0xc76c51a3, 0xd192e819, 0xd6990624, 0xf40e3585, 0x106aa070,
	0x19a4c116, 0x1e376c08, 0x2748774c, 0x34b0bcb5, 0x391c0cb3, 0x4ed8aa4a, 0x5b9cca4f, 0x682e6ff3,
	0x748f82ee, 0x78a5636f, 0x84c87814, 0x8cc70208, 0x90befffa, 0xa4506ceb, 0xbef9a3f7, 0xc67178f2,
}

// state is the hash value between two blocks, and the working variables a to h within one.
type state [8]uint32

// start begins as the fractions of the square roots of the first eight primes do (FIPS 180-4, 5.3.3).
func start() state {
	return state{0x6a09e667, 0xbb67ae85, 0x3c6ef372, 0xa54ff53a, 0x510e527f, 0x9b05688c, 0x1f83d9ab, 0x5be0cd19}
}

// Of gives the digest of the bytes of a text.
func Of(text string) Digest {
	h := start()
	padded := pad(text)
	for at := 0; at < len(padded); at += blockSize {
		h = h.behind(schedule(padded[at : at+blockSize]))
	}
	var d Digest
	for i, word := range h {
		putWord(d[4*i:], word)
	}
	return d
}

// pad ends the bytes with a bit, as many zeros as fill the last block, and the length in bits.
func pad(text string) []byte {
	padded := append([]byte(text), 0x80)
	for len(padded)%blockSize != blockSize-lengthSize {
		padded = append(padded, 0)
	}
	size := uint64(len(text)) * 8
	var length [lengthSize]byte
	putWord(length[:], uint32(size>>32))
	putWord(length[4:], uint32(size))
	return append(padded, length[:]...)
}

func putWord(b []byte, word uint32) {
	for i := range 4 {
		b[i] = byte(word >> (24 - 8*i))
	}
}

func word(b []byte) uint32 {
	return uint32(b[0])<<24 | uint32(b[1])<<16 | uint32(b[2])<<8 | uint32(b[3])
}

// schedule makes a word for each round of a block.
func schedule(block []byte) [64]uint32 {
	var w [64]uint32
	for i := range 16 {
		w[i] = word(block[4*i:])
	}
	for i := 16; i < len(w); i++ {
		a, b := w[i-15], w[i-2]
		mixedA := turn(a, 7) ^ turn(a, 18) ^ a>>3
		mixedB := turn(b, 17) ^ turn(b, 19) ^ b>>10
		w[i] = w[i-16] + mixedA + w[i-7] + mixedB
	}
	return w
}

// turn turns to the right.
func turn(x uint32, by int) uint32 { return bits.RotateLeft32(x, -by) }

// behind gives the hash value behind a block.
func (s state) behind(words [64]uint32) state {
	v := s
	for i, w := range words {
		v = v.round(w + roundWords[i])
	}
	for i := range s {
		s[i] += v[i]
	}
	return s
}

func (s state) round(word uint32) state {
	a, b, c, d, e, f, g, h := s[0], s[1], s[2], s[3], s[4], s[5], s[6], s[7]
	choice := e&f ^ ^e&g
	majority := a&b ^ a&c ^ b&c
	first := h + (turn(e, 6) ^ turn(e, 11) ^ turn(e, 25)) + choice + word
	second := (turn(a, 2) ^ turn(a, 13) ^ turn(a, 22)) + majority
	return state{first + second, a, b, c, d + first, e, f, g}
}
