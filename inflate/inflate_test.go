package inflate_test

import (
	"bytes"
	"compress/flate"
	"io"
	"math"
	"math/rand"
	"slices"
	"strings"
	"testing"

	"erasure/api"
	"erasure/inflate"
)

// lengths and distances list the symbols of RFC 1951: each with its extra bits and its first number.
var lengths = [][3]int{
	{257, 0, 3}, {258, 0, 4}, {259, 0, 5}, {260, 0, 6}, {261, 0, 7}, {262, 0, 8}, {263, 0, 9}, {264, 0, 10},
	{265, 1, 11}, {266, 1, 13}, {267, 1, 15}, {268, 1, 17}, {269, 2, 19}, {270, 2, 23}, {271, 2, 27}, {272, 2, 31},
	{273, 3, 35}, {274, 3, 43}, {275, 3, 51}, {276, 3, 59}, {277, 4, 67}, {278, 4, 83}, {279, 4, 99}, {280, 4, 115},
	{281, 5, 131}, {282, 5, 163}, {283, 5, 195}, {284, 5, 227}, {285, 0, 258},
}

var distances = [][3]int{
	{0, 0, 1}, {1, 0, 2}, {2, 0, 3}, {3, 0, 4}, {4, 1, 5}, {5, 1, 7}, {6, 2, 9}, {7, 2, 13}, {8, 3, 17}, {9, 3, 25},
	{10, 4, 33}, {11, 4, 49}, {12, 5, 65}, {13, 5, 97}, {14, 6, 129}, {15, 6, 193}, {16, 7, 257}, {17, 7, 385}, {18, 8, 513}, {19, 8, 769},
	{20, 9, 1025}, {21, 9, 1537}, {22, 10, 2049}, {23, 10, 3073}, {24, 11, 4097}, {25, 11, 6145}, {26, 12, 8193}, {27, 12, 12289}, {28, 13, 16385}, {29, 13, 24577},
}

func TestExamples(t *testing.T) {
	abc := []byte{0x4b, 0x4c, 0x4a, 0x06, 0x00}
	wantInflate(t, abc, 10, "abc", 5)
	wantTokens(t, abc, 10, literals("abc"), 5)
	hi := []byte{0x01, 0x02, 0x00, 0xfd, 0xff, 0x68, 0x69}
	wantInflate(t, hi, 9, "hi", 7)
	wantTokens(t, hi, 9, literals("hi"), 7)
}

func TestMost(t *testing.T) {
	abc := []byte{0x4b, 0x4c, 0x4a, 0x06, 0x00}
	for _, b := range [][]byte{abc, nil, {7}, abc[:3]} {
		for _, most := range []int{-1, api.MaxBytes + 1, math.MaxInt, math.MinInt} {
			wantError(t, b, most, api.ErrArg)
		}
	}
	for most := range 3 {
		wantError(t, abc, most, api.ErrLong)
	}
	for _, most := range []int{3, 4, api.MaxBytes} {
		wantInflate(t, abc, most, "abc", 5)
	}
	empty := begin().last(1).fixed(256).bytes()
	wantTokens(t, empty, 0, nil, 2)
	wantInflate(t, empty, 0, "", 2)
}

func TestNothing(t *testing.T) {
	wantError(t, nil, 10, api.ErrMore)
	wantError(t, []byte{}, 10, api.ErrMore)
	// Blocks none of which is the last one.
	wantError(t, begin().block(0).stored("a").bytes(), 10, api.ErrMore)
	wantError(t, begin().block(0).stored("").block(0).stored("").bytes(), 10, api.ErrMore)
	// Two bits of a type are missing.
	wantError(t, begin().bits(1, 1).exact(), 10, api.ErrMore)
	wantError(t, begin().bits(1, 1).bits(3, 1).exact(), 10, api.ErrMore)
}

func TestType3(t *testing.T) {
	for _, x := range []byte{6, 7, 0xfe, 0xff} {
		wantError(t, []byte{x}, 10, api.ErrForm)
	}
	wantError(t, begin().last(3).exact(), 10, api.ErrForm)
	wantError(t, begin().block(0).stored("abc").block(3).bytes(), 3, api.ErrForm)
	// What was too long before it comes first.
	wantError(t, begin().block(0).stored("abc").block(3).bytes(), 2, api.ErrLong)
}

func TestStored(t *testing.T) {
	for _, text := range []string{"", "a", "\x00", "hello", strings.Repeat("\xff\x00ab", 16383), strings.Repeat("z", 65535)} {
		b := begin().last(0).stored(text).bytes()
		wantInflate(t, b, len(text), text, len(text)+5)
		wantTokens(t, b, len(text), literals(text), len(text)+5)
		if text != "" {
			wantError(t, b, len(text)-1, api.ErrLong)
			wantError(t, b, 0, api.ErrLong)
		}
	}
	// The rest of a byte is skipped, whatever stands there, also where nothing is left of it.
	b := begin().block(1).fixed('a', 256).block(0).stored("bc").block(1).fixed(256)
	wantInflate(t, b.last(0).stored("de").bytes(), 9, "abcde", len(b.bytes()))
	two := begin().block(0).stored("ab").last(0).stored("cd").bytes()
	wantInflate(t, two, 4, "abcd", 14)
	wantError(t, two, 3, api.ErrLong)
	wantError(t, two, 2, api.ErrLong)
	wantError(t, two, 1, api.ErrLong)
}

func TestStoredLength(t *testing.T) {
	good := begin().last(0).stored("abc").bytes()
	for bit := 8; bit < 40; bit++ {
		b := slices.Clone(good)
		b[bit/8] ^= 1 << (bit % 8)
		wantError(t, b, 9, api.ErrForm)
		// That is told before the bytes are looked for.
		wantError(t, b[:5], 9, api.ErrForm)
	}
	for n := range 5 {
		wantError(t, good[:n], 9, api.ErrMore)
		wantError(t, good[:n], 0, api.ErrMore)
	}
	// All bytes must be there before they are too many.
	for n := 5; n < 8; n++ {
		for most := range 4 {
			wantError(t, good[:n], most, api.ErrMore)
		}
	}
	wantError(t, good, 2, api.ErrLong)
	wantError(t, []byte{1, 0xff, 0xff, 0, 0}, 0, api.ErrMore)
	wantError(t, []byte{1, 0, 0, 0, 0}, 9, api.ErrForm)
	wantError(t, []byte{1, 2, 0, 2, 0, 'h', 'i'}, 9, api.ErrForm)
}

func TestFixedLiterals(t *testing.T) {
	b := begin().last(1)
	var text []byte
	for x := range 256 {
		b.fixed(x)
		text = append(text, byte(x))
	}
	b.fixed(256)
	wantTokens(t, b.bytes(), 256, literals(string(text)), len(b.bytes()))
	wantInflate(t, b.bytes(), 256, string(text), len(b.bytes()))
	wantError(t, b.bytes(), 255, api.ErrLong)
	// ErrLong comes as soon as a literal is one too many, even if nothing follows.
	wantError(t, begin().last(1).fixed('a', 'b').exact(), 1, api.ErrLong)
	wantError(t, begin().last(1).fixed('a').exact(), 0, api.ErrLong)
	wantError(t, begin().last(1).fixed('a').exact(), 1, api.ErrMore)
}

func TestLengths(t *testing.T) {
	for _, x := range lengths {
		for extra := range 1 << x[1] {
			n := x[2] + extra
			b := begin().last(1).fixed('a', 'b', x[0]).bits(extra, x[1]).code(1, 5).fixed(256)
			want := append(literals("ab"), api.Token{Length: n, Back: 2})
			wantTokens(t, b.bytes(), n+2, want, len(b.bytes()))
			wantInflate(t, b.bytes(), n+2, strings.Repeat("ab", 200)[:n+2], len(b.bytes()))
			wantError(t, b.bytes(), n+1, api.ErrLong)
			wantError(t, b.bytes(), 2, api.ErrLong)
		}
	}
}

func TestDistances(t *testing.T) {
	r := rand.New(rand.NewSource(1))
	text := make([]byte, 32768)
	b := begin().last(1)
	for i := range text {
		text[i] = byte(r.Intn(256))
		b.fixed(int(text[i]))
	}
	want := literals(string(text))
	for _, x := range distances {
		for extra := range 1 << x[1] {
			back := x[2] + extra
			want = append(want, api.Token{Length: 3, Back: back})
			b.fixed(257).code(x[0], 5).bits(extra, x[1])
			for range 3 {
				text = append(text, text[len(text)-back])
			}
		}
	}
	b.fixed(256)
	wantTokens(t, b.bytes(), api.MaxBytes, want, len(b.bytes()))
	wantInflate(t, b.bytes(), len(text), string(text), len(b.bytes()))
	if len(text) != 32768+3*32768 {
		t.Errorf("%d bytes were told", len(text))
	}
}

func TestDistanceTooGreat(t *testing.T) {
	for _, x := range distances {
		for extra := range 1 << x[1] {
			if back := x[2] + extra; back < 400 || extra == 0 || extra == 1<<x[1]-1 {
				text := strings.Repeat("q", back)
				b := begin().block(0).stored(text[1:]).last(1).fixed(257).code(x[0], 5).bits(extra, x[1]).fixed(256)
				wantError(t, b.bytes(), back+9, api.ErrForm)
				// It comes before ErrLong.
				wantError(t, b.bytes(), back-1, api.ErrForm)
				b = begin().block(0).stored(text).last(1).fixed(257).code(x[0], 5).bits(extra, x[1]).fixed(256)
				wantInflate(t, b.bytes(), back+9, text+"qqq", len(b.bytes()))
				wantError(t, b.bytes(), back+2, api.ErrLong)
			}
		}
	}
}

// TestMatchInOrder wants each error of a match as soon as it can be told: not a bit is left behind it.
func TestMatchInOrder(t *testing.T) {
	for _, s := range []int{286, 287} {
		wantError(t, begin().last(1).fixed(s).exact(), 9, api.ErrForm)
		wantError(t, begin().last(1).fixed(s).code(0, 5).exact(), 0, api.ErrForm)
	}
	for _, s := range []int{30, 31} {
		wantError(t, begin().last(1).fixed('a', 257).code(s, 5).exact(), 9, api.ErrForm)
		wantError(t, begin().last(1).fixed('a', 257).code(s, 5).exact(), 1, api.ErrForm)
	}
	// A distance that is too great, and then a match that is too long.
	wantError(t, begin().last(1).fixed('a', 257).code(1, 5).exact(), 1, api.ErrForm)
	wantError(t, begin().last(1).fixed('a', 257).code(0, 5).exact(), 3, api.ErrLong)
	wantError(t, begin().last(1).fixed('a', 257).code(0, 5).exact(), 4, api.ErrMore)
	// Extra bits and distances that are missing come before a match that is too long.
	wantError(t, begin().last(1).fixed('a', 257).exact(), 1, api.ErrMore)
	wantError(t, begin().last(1).fixed('a', 265).exact(), 1, api.ErrMore)
	wantError(t, begin().last(1).fixed('a', 284).bits(0, 1).exact(), 1, api.ErrMore)
	wantError(t, begin().last(1).fixed('a', 257).code(4, 5).exact(), 1, api.ErrMore)
	wantError(t, begin().last(1).fixed('a', 257).code(29, 5).bits(0, 12).exact(), 1, api.ErrMore)
	wantError(t, begin().last(1).fixed('a', 257).code(15, 4).exact(), 1, api.ErrMore)
}

func TestManyBlocks(t *testing.T) {
	b := begin().block(1).fixed('a', 'b', 256).block(0).stored("cd").block(1).fixed(256).last(1).fixed(258).code(3, 5).fixed('e', 256)
	used := len(b.bytes())
	want := append(append(literals("abcd"), api.Token{Length: 4, Back: 4}), literals("e")...)
	wantTokens(t, b.bytes(), 9, want, used)
	wantInflate(t, b.bytes(), 9, "abcdabcde", used)
	wantError(t, b.bytes(), 8, api.ErrLong)
}

func TestOverlap(t *testing.T) {
	b := begin().last(1).fixed('x', 285).code(0, 5).fixed('y', 285).code(1, 5).fixed(257).code(2, 5).fixed(256)
	text := "x" + strings.Repeat("x", 258) + "y" + strings.Repeat("xy", 129)
	text += text[len(text)-3:]
	wantInflate(t, b.bytes(), len(text), text, len(b.bytes()))
}

func TestUsed(t *testing.T) {
	for n := range 40 {
		b := begin().last(1)
		for range n {
			b.fixed(200) // a code of nine bits
		}
		b.fixed(256)
		used := (3 + 9*n + 7 + 7) / 8
		wantInflate(t, b.bytes(), 40, strings.Repeat("\xc8", n), used)
		// P6.3: bytes after the last block make no difference.
		wantInflate(t, append(b.bytes(), 0), 40, strings.Repeat("\xc8", n), used)
		wantInflate(t, append(b.align(1).bytes(), "\xff\xff\xff\xff"...), 40, strings.Repeat("\xc8", n), used)
	}
}

func TestExpand(t *testing.T) {
	a, b, c := api.Token{Byte: 'a'}, api.Token{Byte: 'b'}, api.Token{Byte: 255}
	for _, x := range []struct {
		l    []api.Token
		want string
	}{
		{nil, ""}, {[]api.Token{{}}, "\x00"}, {[]api.Token{a, b, c}, "ab\xff"}, {[]api.Token{a, b, {Length: 3, Back: 2}}, "ababa"},
		{[]api.Token{a, {Length: 258, Back: 1}}, strings.Repeat("a", 259)}, {[]api.Token{a, b, a, c, {Length: 3, Back: 4}, b}, "aba\xffabab"},
		{[]api.Token{a, {Length: 3, Back: 1}, b, {Length: 4, Back: 2}, {Length: 5, Back: 9}}, "aaaab" + "abab" + "aaaab"},
	} {
		n := len(x.want)
		for _, most := range []int{n, n + 1, api.MaxBytes} {
			if got, e := inflate.Expand(x.l, most); string(got) != x.want || e != api.OK {
				t.Errorf("P6.2: Expand(%v, %d): %q, %d, want %q", x.l, most, got, e, x.want)
			}
		}
		if got, e := inflate.Expand(x.l, n-1); len(got) != 0 || n > 0 && e != api.ErrLong || n == 0 && e != api.ErrArg {
			t.Errorf("P6.2: Expand(%v, %d): %q, %d", x.l, n-1, got, e)
		}
	}
}

func TestExpandTheGreatest(t *testing.T) {
	l := slices.Repeat([]api.Token{{Byte: 1}, {Byte: 2}, {Byte: 3}, {Byte: 4}}, 8192)
	l = append(l, api.Token{Byte: 9}, api.Token{Length: 3, Back: 32768}, api.Token{Length: 258, Back: 32767})
	want := slices.Repeat([]byte{1, 2, 3, 4}, 8192)
	want = append(want, 9, 2, 3, 4)
	want = append(want, want[5:263]...)
	if got, e := inflate.Expand(l, api.MaxBytes); !bytes.Equal(got, want) || e != api.OK {
		t.Errorf("P6.2: Expand of distances up to 32768: %d bytes, %d", len(got), e)
	}
	l = slices.Repeat([]api.Token{{Byte: 7}}, api.MaxBytes)
	if got, e := inflate.Expand(l, api.MaxBytes); !bytes.Equal(got, slices.Repeat([]byte{7}, api.MaxBytes)) || e != api.OK {
		t.Errorf("P6.2: Expand of as many literals as there may be: %d bytes, %d", len(got), e)
	}
	if got, e := inflate.Expand(append(l, api.Token{}), api.MaxBytes); len(got) != 0 || e != api.ErrLong {
		t.Errorf("P6.2: Expand of one literal more: %d bytes, %d", len(got), e)
	}
}

func TestExpandRefuses(t *testing.T) {
	a := api.Token{Byte: 'a'}
	far := api.Token{Length: 3, Back: 2}
	for _, x := range []struct {
		l    []api.Token
		most int
		want api.Errno
	}{
		{[]api.Token{a}, -1, api.ErrArg}, {nil, api.MaxBytes + 1, api.ErrArg}, {nil, math.MinInt, api.ErrArg}, {nil, math.MaxInt, api.ErrArg},
		{[]api.Token{{Length: 3, Back: 1}}, 9, api.ErrForm}, {[]api.Token{a, far}, 9, api.ErrForm}, {[]api.Token{a, {Length: 3, Back: 32768}}, 9, api.ErrForm},
		// The first one that is wrong counts, and of one token the distance.
		{[]api.Token{a, far}, 1, api.ErrForm}, {[]api.Token{a, far}, 0, api.ErrLong}, {[]api.Token{far, a}, 0, api.ErrForm},
		{[]api.Token{a, {Length: 3, Back: 1}, {Length: 3, Back: 5}}, 3, api.ErrLong}, {[]api.Token{a, {Length: 3, Back: 1}, {Length: 3, Back: 5}}, 4, api.ErrForm},
		{[]api.Token{a, {Length: 258, Back: 1}}, 258, api.ErrLong},
	} {
		if got, e := inflate.Expand(x.l, x.most); len(got) != 0 || e != x.want {
			t.Errorf("P6.2: Expand(%v, %d): %q, %d, want %d", x.l, x.most, got, e, x.want)
		}
	}
	for _, wrong := range []api.Token{
		{Byte: -1}, {Byte: 256}, {Back: 1}, {Back: -1}, {Length: 2, Back: 1}, {Length: 1, Back: 1}, {Length: -1, Back: 1}, {Length: -1}, {Length: 259, Back: 1},
		{Length: 3}, {Length: 3, Back: -1}, {Length: 3, Back: 32769}, {Byte: 1, Length: 3, Back: 1}, {Length: math.MinInt, Back: 1}, {Length: 3, Back: math.MaxInt},
	} {
		// A token that is not valid comes before everything else, wherever it stands.
		for _, l := range [][]api.Token{{wrong}, {a, a, wrong}, {far, wrong}, {wrong, far}, {a, a, a, far, wrong}} {
			for _, most := range []int{0, 1, 900} {
				if got, e := inflate.Expand(l, most); len(got) != 0 || e != api.ErrArg {
					t.Errorf("P6.2: Expand(%v, %d): %q, %d", l, most, got, e)
				}
			}
		}
	}
}

// samples lists texts of many kinds, always the same ones.
func samples() [][]byte {
	r := rand.New(rand.NewSource(1))
	l := [][]byte{nil, []byte("a"), []byte(strings.Repeat("to be or not to be ", 300)), bytes.Repeat([]byte{0}, 100000)}
	for _, n := range []int{10, 1000, 70000} {
		for _, kinds := range []int{2, 20, 256} {
			b := make([]byte, n)
			for i := range b {
				b[i] = byte(r.Intn(1 + r.Intn(kinds)))
				if i > 400 && r.Intn(3) == 0 {
					b[i] = b[i-1-r.Intn(400)]
				}
			}
			l = append(l, b)
		}
	}
	long := make([]byte, api.MaxBytes)
	for i := range long {
		long[i] = byte(i * i >> 11)
	}
	return append(l, long)
}

func packed(t *testing.T, b []byte, level int) []byte {
	t.Helper()
	var out bytes.Buffer
	w, err := flate.NewWriter(&out, level)
	if err != nil {
		t.Fatal(err)
	}
	w.Write(b)
	w.Close()
	return out.Bytes()
}

func TestOtherPackers(t *testing.T) {
	for _, text := range samples() {
		for _, level := range []int{flate.HuffmanOnly, 0, 1, 2, 5, 9} {
			if len(text) == api.MaxBytes && level > 1 {
				continue
			}
			b := packed(t, text, level)
			got, used, e := inflate.Inflate(b, len(text))
			if !bytes.Equal(got, text) || used != len(b) || e != api.OK {
				t.Errorf("P6.2: Inflate of %d bytes packed by level %d: %d, used %d of %d, %d", len(text), level, len(got), used, len(b), e)
			}
			if len(text) > 0 {
				wantError(t, b, len(text)-1, api.ErrLong)
			}
			l, n, e := inflate.Tokens(append(slices.Clip(b), b...), api.MaxBytes)
			again, f := inflate.Expand(l, len(text))
			if n != len(b) || e != api.OK || f != api.OK || !bytes.Equal(again, text) {
				t.Errorf("P6.3: Expand of the tokens of %d bytes: %d, used %d of %d, %d, %d", len(text), len(again), n, len(b), e, f)
			}
		}
	}
}

func TestCutOff(t *testing.T) {
	text := samples()[2][:700]
	for _, level := range []int{flate.HuffmanOnly, 0, 1, 9} {
		b := packed(t, append(text, samples()[5]...), level)
		for n := range b {
			wantError(t, b[:n], api.MaxBytes, api.ErrMore)
		}
	}
}

// TestGreaterMost is about P6.3: with a greater most the result is the same, or ErrLong no longer occurs.
func TestGreaterMost(t *testing.T) {
	r := rand.New(rand.NewSource(3))
	good := packed(t, samples()[5], 9)
	for range 300 {
		b := slices.Clone(good)
		b[r.Intn(len(b))] ^= 1 << r.Intn(8)
		e := api.ErrLong
		var text []byte
		for most := 0; most < 3000; most += 100 {
			got, _, now := inflate.Inflate(b, most)
			if e != api.ErrLong && (now != e || !bytes.Equal(got, text)) {
				t.Fatalf("P6.3: Inflate with %d at most: %d, but before %d", most, now, e)
			}
			text, e = got, now
		}
	}
}

// TestWrongBytes changes bytes; the library tells which of them are still right.
func TestWrongBytes(t *testing.T) {
	r := rand.New(rand.NewSource(4))
	for _, text := range samples()[1:7] {
		for level := 1; level <= 9; level += 2 {
			good := packed(t, text[:min(len(text), 600)], level)
			for range 400 {
				b := slices.Clone(good)
				for range 1 + r.Intn(3) {
					b[r.Intn(len(b))] = byte(r.Intn(256))
				}
				kept := slices.Clone(b)
				got, _, e := inflate.Inflate(b, api.MaxBytes)
				want, err := io.ReadAll(flate.NewReader(bytes.NewReader(b)))
				if (e == api.OK) != (err == nil) || e == api.OK && !bytes.Equal(got, want) {
					t.Fatalf("P6.2: Inflate(% x): %d bytes, %d, but the library tells %d bytes, %v", b, len(got), e, len(want), err)
				}
				if !bytes.Equal(b, kept) {
					t.Fatal("P6.2: Inflate changed its bytes")
				}
			}
		}
	}
}

func TestArgumentsAreKept(t *testing.T) {
	all := []byte("xx\x4b\x4c\x4a\x06\x00yyyy")
	got, _, _ := inflate.Inflate(all[2:7], 9)
	copy(got[:cap(got)], "zzzzzzzzzzzzzzzz")
	stored := append([]byte{1, 3, 0, 0xfc, 0xff}, "abc"...)
	got, _, _ = inflate.Inflate(stored, 9)
	copy(got[:cap(got)], "zzzzzzzzzzzzzzzz")
	if string(all) != "xx\x4b\x4c\x4a\x06\x00yyyy" || string(stored[5:]) != "abc" {
		t.Errorf("P6.2: bytes that were passed became % x, % x", all, stored)
	}
	l := []api.Token{{Byte: 'a'}, {Length: 3, Back: 1}, {Byte: 'b'}}
	if inflate.Expand(l[:2], 9); !slices.Equal(l, []api.Token{{Byte: 'a'}, {Length: 3, Back: 1}, {Byte: 'b'}}) {
		t.Errorf("P6.2: tokens that were passed became %v", l)
	}
}
