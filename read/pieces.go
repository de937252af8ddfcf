// Package read: from a text to its data.
package read

import (
	"iter"
	"strings"
)

// Kind says what a piece is.
type Kind int

const (
	Wrong  Kind = iota // can't stand anywhere
	Open               // (
	Close              // )
	Quote              // '
	Int                // a token that is an int
	Bool               // #t or #f
	Symbol             // a token that is a symbol
	gap                // what stands between pieces; never told
)

// MaxDigits an int has.
const MaxDigits = 18

// Piece is a piece of a text.
type Piece struct {
	Kind Kind
	At   int // how many bytes stand ahead
	Text string
}

// Pieces tells the pieces of a text in their order. What can't stand anywhere
// is told too, as Wrong: it is for the one who asks to stop there.
func Pieces(text string) iter.Seq[Piece] {
	return func(yield func(Piece) bool) {
		for at := 0; at < len(text); {
			end := at + length(text[at:])
			piece := Piece{kindOf(text[at:end]), at, text[at:end]}
			if piece.Kind != gap && !yield(piece) {
				return
			}
			at = end
		}
	}
}

// length of what stands first in a text that is not empty.
func length(text string) int {
	switch {
	case isTokenByte(text[0]):
		return tokenLength(text)
	case text[0] == ';':
		return commentLength(text)
	}
	return 1
}

func tokenLength(text string) int {
	for i := range len(text) {
		if !isTokenByte(text[i]) {
			return i
		}
	}
	return len(text)
}

func commentLength(text string) int {
	if i := strings.IndexByte(text, '\n'); i >= 0 {
		return i
	}
	return len(text)
}

func kindOf(piece string) Kind {
	switch piece[0] {
	case '(':
		return Open
	case ')':
		return Close
	case '\'':
		return Quote
	case ' ', '\n', ';':
		return gap
	}
	if !isTokenByte(piece[0]) {
		return Wrong
	}
	return tokenKind(piece)
}

func tokenKind(token string) Kind {
	digits := strings.TrimPrefix(token, "-")
	switch {
	case token == "#t" || token == "#f":
		return Bool
	case digits != "" && isDigits(digits):
		return intKind(digits)
	case isDigit(token[0]) || strings.Contains(token, "#"):
		return Wrong
	}
	return Symbol
}

func intKind(digits string) Kind {
	if len(digits) > MaxDigits {
		return Wrong
	}
	return Int
}

func isTokenByte(b byte) bool {
	return 'a' <= b && b <= 'z' || isDigit(b) || strings.IndexByte("+-*/<>=?!#", b) >= 0
}

func isDigit(b byte) bool {
	return '0' <= b && b <= '9'
}

func isDigits(s string) bool {
	for i := range len(s) {
		if !isDigit(s[i]) {
			return false
		}
	}
	return true
}
