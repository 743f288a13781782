package deflate_test

import (
	"bytes"
	"compress/flate"
	"io"
	"math"
	"math/rand"
	"slices"
	"strings"
	"testing"

	"erasure/api"
	"erasure/deflate"
	"erasure/inflate"
)

// wantTokens finds the tokens of b by the definition: at each position all
// earlier ones are tried, the nearest first.
func wantTokens(b []byte) []api.Token {
	var l []api.Token
	for at := 0; at < len(b); {
		length, back := 0, 0
		for k := 1; k <= 1024 && k <= at; k++ {
			n := 0
			for n < 258 && at+n < len(b) && b[at+n] == b[at+n-k] {
				n++
			}
			if n > length {
				length, back = n, k
			}
		}
		if length < 3 {
			l = append(l, api.Token{Byte: int(b[at])})
			at++
			continue
		}
		l = append(l, api.Token{Length: length, Back: back})
		at += length
	}
	return l
}

// row is a block by RFC 1951, bit by bit.
type row struct {
	bits []byte
}

func (r *row) number(v, n int) {
	for k := range n {
		r.bits = append(r.bits, byte(v>>k&1))
	}
}

func (r *row) code(v, n int) {
	for k := n - 1; k >= 0; k-- {
		r.bits = append(r.bits, byte(v>>k&1))
	}
}

func (r *row) symbol(s int) {
	switch {
	case s < 144:
		r.code(0x30+s, 8)
	case s < 256:
		r.code(0x190+s-144, 9)
	case s < 280:
		r.code(s-256, 7)
	default:
		r.code(0xc0+s-280, 8)
	}
}

func (r *row) bytes() []byte {
	l := make([]byte, (len(r.bits)+7)/8)
	for i, x := range r.bits {
		l[i/8] |= x << (i % 8)
	}
	return l
}

// The first numbers of the symbols of RFC 1951, and their extra bits.
var (
	lengths    = []int{3, 4, 5, 6, 7, 8, 9, 10, 11, 13, 15, 17, 19, 23, 27, 31, 35, 43, 51, 59, 67, 83, 99, 115, 131, 163, 195, 227, 258}
	lengthBits = []int{0, 0, 0, 0, 0, 0, 0, 0, 1, 1, 1, 1, 2, 2, 2, 2, 3, 3, 3, 3, 4, 4, 4, 4, 5, 5, 5, 5, 0}
	backs      = []int{1, 2, 3, 4, 5, 7, 9, 13, 17, 25, 33, 49, 65, 97, 129, 193, 257, 385, 513, 769, 1025, 1537, 2049, 3073, 4097, 6145, 8193, 12289, 16385, 24577}
	backBits   = []int{0, 0, 0, 0, 1, 1, 2, 2, 3, 3, 4, 4, 5, 5, 6, 6, 7, 7, 8, 8, 9, 9, 10, 10, 11, 11, 12, 12, 13, 13}
)

// last returns the place of the greatest number of l that is at most v.
func last(l []int, v int) int {
	place := 0
	for i, x := range l {
		if x <= v {
			place = i
		}
	}
	return place
}

// wantBlock tells tokens by the definition.
func wantBlock(l []api.Token) []byte {
	r := &row{}
	r.number(1, 1)
	r.number(1, 2)
	for _, t := range l {
		if t.Length == 0 {
			r.symbol(t.Byte)
			continue
		}
		i, k := last(lengths, t.Length), last(backs, t.Back)
		r.symbol(257 + i)
		r.number(t.Length-lengths[i], lengthBits[i])
		r.code(k, 5)
		r.number(t.Back-backs[k], backBits[k])
	}
	r.symbol(256)
	return r.bytes()
}

func literals(text string) []api.Token {
	var l []api.Token
	for _, x := range []byte(text) {
		l = append(l, api.Token{Byte: int(x)})
	}
	return l
}

// noise returns n bytes among which no three are found twice within 1024 bytes.
func noise(n int) []byte {
	b := make([]byte, n)
	for i := range b {
		switch i % 3 {
		case 0:
			b[i] = byte(i / 3)
		case 1:
			b[i] = byte(i / 3 >> 8)
		default:
			b[i] = 0xee
		}
	}
	return b
}

func TestExamples(t *testing.T) {
	want := append(literals("ab"), api.Token{Length: 4, Back: 2})
	if l, e := deflate.Tokens([]byte("ababab")); !slices.Equal(l, want) || e != api.OK {
		t.Errorf("P7.1: Tokens(ababab): %v, %d", l, e)
	}
	if b, e := deflate.Deflate([]byte("abc")); string(b) != "\x4b\x4c\x4a\x06\x00" || e != api.OK {
		t.Errorf("P7.2: Deflate(abc): % x, %d", b, e)
	}
}

func TestTokens(t *testing.T) {
	match := func(length, back int) api.Token { return api.Token{Length: length, Back: back} }
	for _, x := range []struct {
		text string
		want []api.Token
	}{
		{"", nil}, {"a", literals("a")}, {"aa", literals("aa")}, {"aaa", literals("aaa")}, {"\x00\xff", literals("\x00\xff")},
		{"aaaa", append(literals("a"), match(3, 1))}, {"aaaaa", append(literals("a"), match(4, 1))},
		{"abcabc", append(literals("abc"), match(3, 3))}, {"abcab", literals("abcab")}, {"abcabcabcab", append(literals("abc"), match(8, 3))},
		{"abab", literals("abab")}, {"ababa", append(literals("ab"), match(3, 2))},
		// Of equal lengths the nearest, but a longer one that is farther comes first.
		{"abc1abc2abc", append(append(append(literals("abc1"), match(3, 4)), literals("2")...), match(3, 4))},
		{"abcd1abc2abcd", append(append(append(literals("abcd1"), match(3, 5)), literals("2")...), match(4, 9))},
		// A longer match one byte later is not waited for.
		{"abc1bcde2abcde", append(append(literals("abc1bcde2"), match(3, 9)), literals("de")...)},
		// Bytes inside a match are found as well.
		{"xyzxyzxyz-yzx", append(append(append(literals("xyz"), match(6, 3)), literals("-")...), match(3, 6))},
	} {
		if l, e := deflate.Tokens([]byte(x.text)); !slices.Equal(l, x.want) || e != api.OK {
			t.Errorf("P7.1: Tokens(%q): %v, %d, want %v", x.text, l, e, x.want)
		}
	}
}

func TestGreatestLength(t *testing.T) {
	match := func(length int) api.Token { return api.Token{Length: length, Back: 1} }
	for n, want := range map[int][]api.Token{
		257: {match(257)}, 258: {match(258)}, 259: {match(258), {Byte: 'z'}}, 260: {match(258), {Byte: 'z'}, {Byte: 'z'}},
		261: {match(258), match(3)}, 516: {match(258), match(258)}, 517: {match(258), match(258), {Byte: 'z'}},
	} {
		want = append(literals("z"), want...)
		if l, e := deflate.Tokens(bytes.Repeat([]byte("z"), n+1)); !slices.Equal(l, want) || e != api.OK {
			t.Errorf("P7.1: Tokens of %d same bytes: %v, %d, want %v", n+1, l, e, want)
		}
	}
}

func TestGreatestDistance(t *testing.T) {
	for n := 1010; n < 1040; n++ {
		for _, part := range []string{"\xf1\xf2\xf3", "\xf1\xf2\xf3\xf4\xf5"} {
			text := []byte(part)
			text = append(text, noise(n-len(part))...)
			text = append(text, part...)
			l, e := deflate.Tokens(text)
			want := literals(string(text))
			if n <= 1024 {
				want = append(want[:n], api.Token{Length: len(part), Back: n})
			}
			if !slices.Equal(l, want) || e != api.OK {
				t.Errorf("P7.1: %d tokens where the same %d bytes stood %d bytes earlier, %d, want %d", len(l), len(part), n, e, len(want))
			}
		}
	}
	// A long match reaches over all of the distance.
	text := append(noise(1024), noise(1024)...)
	l, _ := deflate.Tokens(text)
	if want := wantTokens(text); !slices.Equal(l, want) || !slices.Contains(l, api.Token{Length: 258, Back: 1024}) {
		t.Errorf("P7.1: %d tokens, want %d", len(l), len(want))
	}
}

func TestMostBytes(t *testing.T) {
	b := make([]byte, api.MaxBytes+1)
	for i := range b {
		b[i] = byte(i * i >> 9)
	}
	for _, l := range [][]byte{b, append(b, b...)} {
		if got, e := deflate.Tokens(l); len(got) != 0 || e != api.ErrLong {
			t.Errorf("P7.1: Tokens of %d bytes: %d tokens, %d", len(l), len(got), e)
		}
		if got, e := deflate.Deflate(l); len(got) != 0 || e != api.ErrLong {
			t.Errorf("P7.2: Deflate of %d bytes: %d bytes, %d", len(l), len(got), e)
		}
	}
	whole := b[:api.MaxBytes]
	packed, e := deflate.Deflate(whole)
	got, used, f := inflate.Inflate(packed, api.MaxBytes)
	if !bytes.Equal(got, whole) || used != len(packed) || e != api.OK || f != api.OK {
		t.Errorf("P7.3: of %d bytes %d came back, %d, %d", len(whole), len(got), e, f)
	}
}

// texts lists bytes with many matches of many kinds, always the same ones.
func texts() [][]byte {
	r := rand.New(rand.NewSource(1))
	l := [][]byte{nil, noise(5000), []byte(strings.Repeat("the rest of the test of the text ", 90)), bytes.Repeat([]byte("ab"), 2000)}
	for range 60 {
		b := make([]byte, r.Intn(5000))
		kinds := []int{1, 2, 3, 8, 32, 256}[r.Intn(6)]
		for i := 0; i < len(b); i++ {
			b[i] = byte(r.Intn(kinds) * 256 / kinds)
			if r.Intn(40) == 0 && i > 0 {
				// A part of what stood before, near or far.
				for back := 1 + r.Intn(min(i, 1+r.Intn(2000))); r.Intn(100) > 0 && i+1 < len(b); i++ {
					b[i+1] = b[i+1-back]
				}
			}
		}
		l = append(l, b)
	}
	return l
}

func TestTokensAgreeWithDefinition(t *testing.T) {
	for i, b := range texts() {
		kept := slices.Clone(b)
		got, e := deflate.Tokens(b)
		if want := wantTokens(b); !slices.Equal(got, want) || e != api.OK {
			t.Fatalf("P7.1: Tokens of text %d: %d tokens, %d, want %d", i, len(got), e, len(want))
		}
		if !bytes.Equal(b, kept) {
			t.Fatalf("P7.1: Tokens changed text %d", i)
		}
		again, e := inflate.Expand(got, len(b))
		if !bytes.Equal(again, b) || e != api.OK {
			t.Fatalf("P7.3: Expand of the tokens of text %d: %d", i, e)
		}
	}
}

// TestLiteralsAreNoMatch is about P7.3: three literals in a row did not occur within 1024 bytes before.
func TestLiteralsAreNoMatch(t *testing.T) {
	for i, b := range texts() {
		l, _ := deflate.Tokens(b)
		at := 0
		for k, x := range l {
			if k+2 < len(l) && x.Length+l[k+1].Length+l[k+2].Length == 0 {
				if bytes.Contains(b[max(0, at-1024):at+2], b[at:at+3]) {
					t.Fatalf("P7.3: of text %d the literals from %d on could be a match", i, at)
				}
			}
			at += max(1, x.Length)
		}
	}
}

func TestPut(t *testing.T) {
	for _, x := range []struct {
		l    []api.Token
		want string
	}{
		{nil, "\x03\x00"}, {literals("a"), "\x4b\x04\x00"}, {literals("abc"), "\x4b\x4c\x4a\x06\x00"}, {literals("\xff"), "\xfb\x0f\x00"},
		{append(literals("a"), api.Token{Length: 3, Back: 1}), "\x4b\x04\x02\x00"},
	} {
		if b, e := deflate.Put(x.l); string(b) != x.want || e != api.OK {
			t.Errorf("P7.2: Put(%v): % x, %d, want % x", x.l, b, e, x.want)
		}
	}
}

func TestPutOfEachToken(t *testing.T) {
	var l []api.Token
	for x := range 256 {
		l = append(l, api.Token{Byte: x})
	}
	for n := 3; n <= 258; n++ {
		l = append(l, api.Token{Length: n, Back: 1}, api.Token{Length: n, Back: 32768})
	}
	for back := 1; back <= 32768; back++ {
		l = append(l, api.Token{Length: 3, Back: back})
	}
	for _, x := range l {
		one := []api.Token{x}
		if b, e := deflate.Put(one); !bytes.Equal(b, wantBlock(one)) || e != api.OK {
			t.Errorf("P7.2: Put(%v): % x, %d, want % x", one, b, e, wantBlock(one))
		}
	}
	kept := slices.Clone(l)
	if b, e := deflate.Put(l); !bytes.Equal(b, wantBlock(l)) || e != api.OK {
		t.Errorf("P7.2: Put of %d tokens: %d bytes, %d", len(l), len(b), e)
	}
	if !slices.Equal(l, kept) {
		t.Errorf("P7.2: Put changed its tokens")
	}
}

// TestPutInAnyOrder takes tokens that reach back farther than there are bytes: whether they do is not asked.
func TestPutInAnyOrder(t *testing.T) {
	r := rand.New(rand.NewSource(2))
	for range 200 {
		var l []api.Token
		for range r.Intn(30) {
			x := api.Token{Byte: r.Intn(256)}
			if r.Intn(2) == 0 {
				x = api.Token{Length: 3 + r.Intn(256), Back: 1 + r.Intn(32768)}
			}
			l = append(l, x)
		}
		if b, e := deflate.Put(l); !bytes.Equal(b, wantBlock(l)) || e != api.OK {
			t.Fatalf("P7.2: Put(%v): % x, %d, want % x", l, b, e, wantBlock(l))
		}
	}
}

func TestPutRefuses(t *testing.T) {
	a := api.Token{Byte: 'a'}
	for _, wrong := range []api.Token{
		{Byte: -1}, {Byte: 256}, {Byte: math.MaxInt}, {Byte: math.MinInt}, {Back: 1}, {Back: -1}, {Byte: 1, Back: 1},
		{Length: 1, Back: 1}, {Length: 2, Back: 1}, {Length: -1, Back: 1}, {Length: 259, Back: 1}, {Length: math.MaxInt, Back: 1}, {Length: math.MinInt, Back: 1},
		{Length: 3}, {Length: 258}, {Length: 3, Back: -1}, {Length: 3, Back: 32769}, {Length: 3, Back: math.MaxInt}, {Length: 3, Back: math.MinInt},
		{Byte: 1, Length: 3, Back: 1}, {Byte: -1, Length: 3, Back: 1},
	} {
		for _, l := range [][]api.Token{{wrong}, {a, wrong}, {wrong, a}, {a, a, wrong, a}} {
			if b, e := deflate.Put(l); len(b) != 0 || e != api.ErrArg {
				t.Errorf("P7.2: Put(%v): % x, %d", l, b, e)
			}
		}
	}
}

func TestDeflateIsRestored(t *testing.T) {
	for i, text := range texts() {
		b, e := deflate.Deflate(text)
		if want := wantBlock(wantTokens(text)); !bytes.Equal(b, want) || e != api.OK {
			t.Fatalf("P7.2: Deflate of text %d: %d bytes, %d, want %d", i, len(b), e, len(want))
		}
		got, used, e := inflate.Inflate(b, len(text))
		if !bytes.Equal(got, text) || used != len(b) || e != api.OK {
			t.Fatalf("P7.3: of text %d of %d bytes %d came back, %d", i, len(text), len(got), e)
		}
		got, err := io.ReadAll(flate.NewReader(bytes.NewReader(b)))
		if !bytes.Equal(got, text) || err != nil {
			t.Fatalf("P7.3: of text %d of %d bytes the library restores %d: %v", i, len(text), len(got), err)
		}
	}
}

func TestArgumentsAreKept(t *testing.T) {
	all := []byte("abcabcabcxyz")
	b, _ := deflate.Deflate(all[:9])
	copy(b[:cap(b)], "zzzzzzzzzzzzzzzz")
	l, _ := deflate.Tokens(all[:9])
	clear(l[:cap(l)])
	if string(all) != "abcabcabcxyz" {
		t.Errorf("P7.2: bytes that were passed became %q", all)
	}
	if b, _ := deflate.Deflate([]byte("abc")); string(b) != "\x4b\x4c\x4a\x06\x00" {
		t.Errorf("P7.2: Deflate(abc) became % x", b)
	}
}
