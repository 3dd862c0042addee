package program

import (
	"strings"
	"unicode/utf8"

	"axiom/api"
)

type tokenKind int

const (
	kindWrong tokenKind = iota // what is no token
	kindEnd                    // the text's end
	kindName
	kindVariable
	kindOpen
	kindClose
	kindComma
	kindStop
	kindIf
)

// The first code point that is a small letter whatever it is.
const firstWideLetter = '\u00e0'

type token struct {
	kind tokenKind
	at   int // its first byte in the whole text
	text string
}

// split ends at the first that is no token: nothing behind it can matter, as no program goes on over it.
func split(text string) []token {
	var tokens []token
	behind := 0
	for at, r := range text {
		if at < behind || isBlank(r) {
			continue
		}
		kind, size := firstToken(text[at:], r)
		tokens = append(tokens, token{kind, at, text[at : at+size]})
		if kind == kindWrong {
			return tokens
		}
		behind = at + size
	}
	return append(tokens, token{kind: kindEnd, at: len(text)})
}

func isBlank(r rune) bool { return r == ' ' || r == '\n' }

// firstToken tells the kind and the bytes of the token that rest begins with; r is the first code point of rest.
func firstToken(rest string, r rune) (tokenKind, int) {
	switch {
	case r == '(':
		return kindOpen, 1
	case r == ')':
		return kindClose, 1
	case r == ',':
		return kindComma, 1
	case r == '.':
		return kindStop, 1
	case strings.HasPrefix(rest, ":-"):
		return kindIf, 2
	case isSmall(rest, r):
		return word(rest, kindName)
	case isCapital(r):
		return word(rest, kindVariable)
	}
	return kindWrong, 0
}

// word measures a name or a variable; one that is too long is no token, rather than two.
func word(rest string, kind tokenKind) (tokenKind, int) {
	size, points := len(rest), 0
	for at, r := range rest {
		if at > 0 && !isSmall(rest[at:], r) && !isDigit(r) {
			size = at
			break
		}
		points++
	}
	if points > api.MaxName {
		return kindWrong, 0
	}
	return kind, size
}

// IsName tells whether a text is a name, whole and alone.
func IsName(text string) bool {
	r, _ := utf8.DecodeRuneInString(text)
	kind, size := firstToken(text, r)
	return kind == kindName && size == len(text)
}

// isSmall needs the bytes too: range gives U+FFFD both for its own three bytes and for a byte that is no UTF-8.
func isSmall(rest string, r rune) bool {
	if r == '\ufffd' {
		return strings.HasPrefix(rest, "\ufffd")
	}
	return 'a' <= r && r <= 'z' || r >= firstWideLetter
}

func isCapital(r rune) bool { return 'A' <= r && r <= 'Z' }

func isDigit(r rune) bool { return '0' <= r && r <= '9' }

// plainForm writes into new memory: an answer shares none with the text that was handed in.
func plainForm(tokens []token) string {
	var b strings.Builder
	for _, t := range tokens {
		b.WriteString(t.text)
	}
	return b.String()
}
