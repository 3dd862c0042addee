package program

import (
	"slices"
	"testing"
)

func kindsOf(tokens []token) []tokenKind {
	var kinds []tokenKind
	for _, t := range tokens {
		kinds = append(kinds, t.kind)
	}
	return kinds
}

func TestSplitKinds(t *testing.T) {
	for _, c := range []struct {
		text string
		want []tokenKind
	}{
		{"", []tokenKind{kindEnd}},
		{" \n", []tokenKind{kindEnd}},
		{"p(X,a):-q.", []tokenKind{kindName, kindOpen, kindVariable, kindComma, kindName, kindClose, kindIf, kindName, kindStop, kindEnd}},
		{"aB", []tokenKind{kindName, kindVariable, kindEnd}},
		{"AB", []tokenKind{kindVariable, kindVariable, kindEnd}},
		{"Ab1", []tokenKind{kindVariable, kindEnd}},
		{"a:", []tokenKind{kindName, kindWrong}},
		{": -", []tokenKind{kindWrong}},
		{"a-", []tokenKind{kindName, kindWrong}},
		{"1a", []tokenKind{kindWrong}},
		{"abcdefg", []tokenKind{kindWrong}},
		{"abcdef G", []tokenKind{kindName, kindVariable, kindEnd}},
	} {
		if got := kindsOf(split(c.text)); !slices.Equal(got, c.want) {
			t.Errorf("split(%q) has the kinds %v, want %v", c.text, got, c.want)
		}
	}
}

func TestSplitPlaces(t *testing.T) {
	want := []token{{kindName, 1, "né"}, {kindOpen, 5, "("}, {kindVariable, 7, "Xé"}, {kindIf, 11, ":-"}, {kindWrong, 14, ""}}
	if got := split(" né ( Xé\n:- \xff a"); !slices.Equal(got, want) {
		t.Errorf("split = %v, want %v", got, want)
	}
	want = []token{{kindStop, 0, "."}, {kindEnd, 4, ""}}
	if got := split(".  \n"); !slices.Equal(got, want) {
		t.Errorf("split = %v, want %v", got, want)
	}
}

func TestIsName(t *testing.T) {
	for _, s := range []string{"a", "abcdef", "a00000", "é", "éééééé", "\ufffd", "\U0010ffff9"} {
		if !IsName(s) {
			t.Errorf("IsName(%q) is false", s)
		}
	}
	for _, s := range []string{"", "abcdefg", "A", "Ab", "0", "aB", "a b", "a ", " a", "a\n", "a(", ".", ":-", "É", "\xff", "\xef\xbf", "a\xff", "abcdef\xff", "abcdef."} {
		if IsName(s) {
			t.Errorf("IsName(%q) is true", s)
		}
	}
}
