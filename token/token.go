// Package token holds what layers 6 and 7 both know about the tokens of DEFLATE
// (RFC 1951): which ones are valid, and which numbers their symbols stand for.
package token

import "erasure/api"

// Symbols of literals and lengths. Those below End are literal bytes.
const (
	End    = 256
	Length = 257 // the first one of a length
)

const (
	maxByte   = 255
	minLength = 3
	maxLength = 258
	minBack   = 1
	maxBack   = 32768
)

// Span is the numbers that a symbol stands for: First, and those behind it that
// are told by so many extra bits.
type Span struct {
	First, Bits int
}

// Valid tells whether t is a literal or a match.
func Valid(t api.Token) bool {
	if t.Length == 0 {
		return t.Back == 0 && 0 <= t.Byte && t.Byte <= maxByte
	}
	return t.Byte == 0 &&
		minLength <= t.Length && t.Length <= maxLength &&
		minBack <= t.Back && t.Back <= maxBack
}

// Lengths returns the spans of the symbols from Length on.
func Lengths() []Span {
	// The greatest length has a symbol of its own, beside its place in the span before.
	return append(spans(minLength, 28, 4), Span{First: maxLength})
}

// Distances returns the spans of the symbols of distances, from 0 on.
func Distances() []Span {
	return spans(minBack, 30, 2)
}

// spans returns n spans that follow one another from first on. Two groups of
// them have no extra bits, and every other group has one more than the group before.
func spans(first, n, group int) []Span {
	l := make([]Span, n)
	for i := range l {
		l[i] = Span{First: first, Bits: max(0, i/group-1)}
		first += 1 << l[i].Bits
	}
	return l
}
