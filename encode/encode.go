// Package encode writes numbers and texts as bytes, and reads them again.
package encode

const (
	lowBits = 0x7f
	more    = 0x80 // set in each byte of a number but the last
)

// AppendNumber writes a number, which is 0 or above, behind b.
func AppendNumber(b []byte, n int) []byte {
	for ; n > lowBits; n >>= 7 {
		b = append(b, byte(n&lowBits)|more)
	}
	return append(b, byte(n))
}

// AppendText writes a text behind b.
func AppendText(b []byte, text string) []byte { return append(AppendNumber(b, len(text)), text...) }
