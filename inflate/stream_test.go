package inflate_test

import (
	"testing"

	"erasure/api"
	"erasure/huff"
	"erasure/inflate"
)

// stream is a row of bits, in the order in which they are read.
type stream struct {
	row []byte
}

// bits appends a number of n bits, the least significant one first.
func (s *stream) bits(v, n int) *stream {
	for k := range n {
		s.row = append(s.row, byte(v>>k&1))
	}
	return s
}

// code appends a code of n bits, the most significant one first.
func (s *stream) code(v, n int) *stream {
	for k := n - 1; k >= 0; k-- {
		s.row = append(s.row, byte(v>>k&1))
	}
	return s
}

// codes appends the codes of symbols that have such lengths.
func (s *stream) codes(lengths []int, symbols ...int) *stream {
	l, e := huff.Codes(lengths)
	if e != api.OK {
		panic("lengths without codes")
	}
	for _, x := range symbols {
		s.code(l[x], lengths[x])
	}
	return s
}

// block begins a block that is not the last one.
func (s *stream) block(kind int) *stream {
	return s.bits(0, 1).bits(kind, 2)
}

// last begins the last block.
func (s *stream) last(kind int) *stream {
	return s.bits(1, 1).bits(kind, 2)
}

// fixed appends symbols by the fixed codes of RFC 1951.
func (s *stream) fixed(symbols ...int) *stream {
	for _, x := range symbols {
		switch {
		case x < 144:
			s.code(0x30+x, 8)
		case x < 256:
			s.code(0x190+x-144, 9)
		case x < 280:
			s.code(x-256, 7)
		default:
			s.code(0xc0+x-280, 8)
		}
	}
	return s
}

// align appends bits of one kind up to a whole byte.
func (s *stream) align(bit int) *stream {
	for len(s.row)%8 != 0 {
		s.bits(bit, 1)
	}
	return s
}

// stored appends what follows the type of a stored block.
func (s *stream) stored(text string) *stream {
	s.align(1).bits(len(text), 16).bits(65535-len(text), 16)
	for _, x := range []byte(text) {
		s.bits(int(x), 8)
	}
	return s
}

// bytes returns the whole row.
func (s *stream) bytes() []byte {
	l := make([]byte, (len(s.row)+7)/8)
	for i, x := range s.row {
		l[i/8] |= x << (i % 8)
	}
	return l
}

// begin is an empty stream.
func begin() *stream {
	return &stream{}
}

// exact returns the row behind blocks without bytes, such that it ends at a
// whole byte: not a bit is left behind it. It may have no stored block.
func (s *stream) exact() []byte {
	ahead := begin()
	if len(s.row)%2 != 0 {
		// A fixed block without bytes has ten bits, this one 101.
		ahead.block(2).lengths(flat(), 257, 1).zeros(256).codes(flat(), 1, 0).bits(0, 1)
	}
	for (len(ahead.row)+len(s.row))%8 != 0 {
		ahead.block(1).fixed(256)
	}
	ahead.row = append(ahead.row, s.row...)
	return ahead.bytes()
}

// cut returns the first n bits of the row.
func (s *stream) cut(n int) *stream {
	return &stream{row: s.row[:n]}
}

func wantTokens(t *testing.T, b []byte, most int, want []api.Token, used int) {
	t.Helper()
	l, n, e := inflate.Tokens(b, most)
	if e != api.OK || n != used || len(l) != len(want) {
		t.Errorf("P6.1: Tokens(% x, %d): %d tokens, %d, %d, want %d, %d", head(b), most, len(l), n, e, len(want), used)
		return
	}
	for i := range l {
		if l[i] != want[i] {
			t.Errorf("P6.1: Tokens(% x, %d): token %d is %v, want %v", head(b), most, i, l[i], want[i])
			return
		}
	}
}

func wantInflate(t *testing.T, b []byte, most int, want string, used int) {
	t.Helper()
	l, n, e := inflate.Inflate(b, most)
	if string(l) != want || n != used || e != api.OK {
		t.Errorf("P6.2: Inflate(% x, %d): %q, %d, %d, want %q, %d", head(b), most, head(l), n, e, head([]byte(want)), used)
	}
}

// wantError wants it of Tokens and of Inflate.
func wantError(t *testing.T, b []byte, most int, want api.Errno) {
	t.Helper()
	if l, n, e := inflate.Tokens(b, most); len(l) != 0 || n != 0 || e != want {
		t.Errorf("P6.1: Tokens(% x, %d): %d tokens, %d, %d, want error %d", head(b), most, len(l), n, e, want)
	}
	if l, n, e := inflate.Inflate(b, most); len(l) != 0 || n != 0 || e != want {
		t.Errorf("P6.2: Inflate(% x, %d): %d bytes, %d, %d, want error %d", head(b), most, len(l), n, e, want)
	}
}

// head returns the first bytes, as many as a message shows.
func head(b []byte) []byte {
	return b[:min(len(b), 40)]
}

func literals(text string) []api.Token {
	var l []api.Token
	for _, x := range []byte(text) {
		l = append(l, api.Token{Byte: int(x)})
	}
	return l
}
