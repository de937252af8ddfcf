package read

import (
	"slices"
	"strings"
	"testing"
)

func TestPieces(t *testing.T) {
	for text, want := range map[string][]Piece{
		"":                  nil,
		" \n; (a 1) \x00 é": nil,
		"()'":               {{Open, 0, "("}, {Close, 1, ")"}, {Quote, 2, "'"}},
		"a;b\nc":            {{Symbol, 0, "a"}, {Symbol, 4, "c"}},
		"(f 'x -1 #t)": {{Open, 0, "("}, {Symbol, 1, "f"}, {Quote, 3, "'"}, {Symbol, 4, "x"},
			{Int, 6, "-1"}, {Bool, 9, "#t"}, {Close, 11, ")"}},
		"aBé":   {{Symbol, 0, "a"}, {Wrong, 1, "B"}, {Wrong, 2, "\xc3"}, {Wrong, 3, "\xa9"}},
		"1a 2":  {{Wrong, 0, "1a"}, {Int, 3, "2"}},
		"a'b#f": {{Symbol, 0, "a"}, {Quote, 1, "'"}, {Wrong, 2, "b#f"}},
	} {
		if got := slices.Collect(Pieces(text)); !slices.Equal(got, want) {
			t.Errorf("Pieces(%q) = %v, want %v", text, got, want)
		}
	}
}

func TestTokenKinds(t *testing.T) {
	const most = "123456789012345678"
	for kind, tokens := range map[Kind][]string{
		Int:    {"0", "-0", "7", "007", most, "-" + most},
		Bool:   {"#t", "#f"},
		Symbol: {"-", "--5", "-5a", "+5", "a1", "+", "<=", "call/cc", "set!", "null?", "-1-", "=1", "a" + most + "9"},
		Wrong:  {"1a", "1-", "5+", "#", "#x", "#tt", "t#", "-#", "#t#f", "-1#", most + "9", "-" + most + "9", "0" + most},
	} {
		for _, token := range tokens {
			if got := slices.Collect(Pieces(token)); !slices.Equal(got, []Piece{{kind, 0, token}}) {
				t.Errorf("Pieces(%q) = %v, want one of kind %d", token, got, kind)
			}
		}
	}
}

func TestPiecesOfEachByte(t *testing.T) {
	for b := range 256 {
		s := string([]byte{byte(b)})
		want := Wrong
		switch {
		case strings.Contains(" \n;", s):
			want = gap
		case s == "(":
			want = Open
		case s == ")":
			want = Close
		case s == "'":
			want = Quote
		case strings.Contains("0123456789", s):
			want = Int
		case strings.Contains("abcdefghijklmnopqrstuvwxyz+-*/<>=?!", s):
			want = Symbol
		}
		got := gap
		for piece := range Pieces(s) {
			got = piece.Kind
		}
		if got != want {
			t.Errorf("the byte %#x is of kind %d, want %d", b, got, want)
		}
	}
}

func TestPiecesEndEarly(t *testing.T) {
	seen := 0
	for range Pieces("a b c d") {
		seen++
		if seen == 2 {
			break
		}
	}
	if seen != 2 {
		t.Errorf("%d pieces were told, want 2", seen)
	}
}
