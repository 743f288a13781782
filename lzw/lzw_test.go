package lzw_test

import (
	"bytes"
	"math"
	"math/rand"
	"strings"
	"testing"

	"erasure/api"
	"erasure/lzw"
)

// row is codes, bit by bit, and how many entries Get has in its table when it reads the next one.
type row struct {
	bits     []byte
	entries  int
	previous bool
}

func size(entries int) int {
	switch {
	case entries < 253:
		return 9
	case entries < 765:
		return 10
	case entries < 1789:
		return 11
	}
	return 12
}

// codes appends codes with as many bits as each is read.
func (r *row) codes(l ...int) *row {
	for _, code := range l {
		for k := size(r.entries) - 1; k >= 0; k-- {
			r.bits = append(r.bits, byte(code>>k&1))
		}
		switch {
		case code == 256:
			r.entries, r.previous = 0, false
		case code != 257:
			if r.previous && r.entries < 3838 {
				r.entries++
			}
			r.previous = true
		}
	}
	return r
}

// bytes returns the whole row, filled up with bits 0.
func (r *row) bytes() []byte {
	l := make([]byte, (len(r.bits)+7)/8)
	for i, x := range r.bits {
		l[i/8] |= x << (7 - i%8)
	}
	return l
}

func codes(l ...int) *row {
	return (&row{}).codes(l...)
}

// wantPut finds the codes of b by the definition: of the strings of the table the longest one is sought.
func wantPut(b []byte) []byte {
	r := codes(256)
	table, longest := map[string]int{}, 1
	for at := 0; at < len(b); {
		n, code := 1, int(b[at])
		for k := min(longest, len(b)-at); k > 1; k-- {
			if c, found := table[string(b[at:at+k])]; found {
				n, code = k, c
				break
			}
		}
		r.codes(code)
		if at+n < len(b) {
			table[string(b[at:at+n+1])] = 258 + len(table)
			longest = max(longest, n+1)
			if len(table) == 3837 {
				r.codes(256)
				table, longest = map[string]int{}, 1
			}
		}
		at += n
	}
	return r.codes(257).bytes()
}

// reference decodes by the definition, with strings that are kept whole.
func reference(b []byte, most int) ([]byte, api.Errno) {
	var table [][]byte
	var previous, out []byte
	at := 0
	for {
		n := size(len(table))
		if at+n > 8*len(b) {
			return nil, api.ErrMore
		}
		code := 0
		for range n {
			code = code<<1 | int(b[at/8])>>(7-at%8)&1
			at++
		}
		var text []byte
		switch {
		case code == 256:
			table, previous = nil, nil
			continue
		case code == 257:
			return out, api.OK
		case code < 256:
			text = []byte{byte(code)}
		case code-258 < len(table):
			text = table[code-258]
		case code-258 == len(table) && previous != nil:
			text = append(bytes.Clone(previous), previous[0])
		default:
			return nil, api.ErrForm
		}
		if len(out)+len(text) > most {
			return nil, api.ErrLong
		}
		out = append(out, text...)
		if previous != nil && len(table) < 3838 {
			table = append(table, append(bytes.Clone(previous), text[0]))
		}
		previous = text
	}
}

func wantGet(t *testing.T, b []byte, most int, want string) {
	t.Helper()
	if got, e := lzw.Get(b, most); string(got) != want || e != api.OK {
		t.Errorf("P12.1: Get(% x, %d): %d bytes %.40q, %d, want %d bytes %.40q", b[:min(40, len(b))], most, len(got), got, e, len(want), want)
	}
}

func wantError(t *testing.T, b []byte, most int, want api.Errno) {
	t.Helper()
	if got, e := lzw.Get(b, most); len(got) != 0 || e != want {
		t.Errorf("P12.1: Get(% x, %d): %d bytes, %d, want error %d", b[:min(40, len(b))], most, len(got), e, want)
	}
}

// wantBothWays wants Put to be what the definition tells, and Get to restore it.
func wantBothWays(t *testing.T, b []byte) {
	t.Helper()
	kept := bytes.Clone(b)
	put, e := lzw.Put(b)
	if want := wantPut(b); !bytes.Equal(put, want) || e != api.OK {
		t.Errorf("P12.2: Put of %d bytes %.40q: %d bytes, %d, want %d", len(b), b, len(put), e, len(want))
	}
	if !bytes.Equal(b, kept) {
		t.Errorf("P12.2: Put changed its bytes")
	}
	if got, e := lzw.Get(put, len(b)); !bytes.Equal(got, b) || e != api.OK {
		t.Errorf("P12.3: of %d bytes %.40q %d came back, %d", len(b), b, len(got), e)
	}
}

// noise returns bytes in which strings are seldom found twice.
func noise(n int) []byte {
	r := rand.New(rand.NewSource(1))
	b := make([]byte, n)
	for i := range b {
		b[i] = byte(r.Intn(256))
	}
	return b
}

func TestExample(t *testing.T) {
	text := []byte{45, 45, 45, 45, 45, 65, 45, 45, 45, 66}
	want := []byte{0x80, 0x0b, 0x60, 0x50, 0x22, 0x0c, 0x0c, 0x85, 0x01}
	if b, e := lzw.Put(text); !bytes.Equal(b, want) || e != api.OK {
		t.Errorf("P12.2: Put(% x): % x, %d", text, b, e)
	}
	wantGet(t, want, 10, string(text))
	wantGet(t, codes(256, 45, 258, 258, 65, 259, 66, 257).bytes(), 10, string(text))
}

func TestPut(t *testing.T) {
	for _, x := range []struct {
		text string
		want []int
	}{
		{"", []int{256, 257}}, {"a", []int{256, 97, 257}}, {"ab", []int{256, 97, 98, 257}}, {"aa", []int{256, 97, 97, 257}}, {"aaa", []int{256, 97, 258, 257}},
		{"abab", []int{256, 97, 98, 258, 257}}, {"ababab", []int{256, 97, 98, 258, 258, 257}}, {"abababa", []int{256, 97, 98, 258, 260, 257}}, {"\x00\xff", []int{256, 0, 255, 257}},
	} {
		b, e := lzw.Put([]byte(x.text))
		if want := codes(x.want...).bytes(); !bytes.Equal(b, want) || e != api.OK {
			t.Errorf("P12.2: Put(%q): % x, %d, want % x", x.text, b, e, want)
		}
		wantGet(t, b, len(x.text), x.text)
	}
	if b, e := lzw.Put(nil); string(b) != "\x80\x40\x40" || e != api.OK {
		t.Errorf("P12.2: Put of nothing: % x, %d", b, e)
	}
}

// TestPutOfEachLength has texts that end around each change of the codes' length, and around a table that is full.
func TestPutOfEachLength(t *testing.T) {
	text := noise(9000)
	for _, n := range []int{253, 765, 1789, 3837, 2 * 3838, 3838 + 253} {
		for k := n - 8; k <= n+8; k++ {
			wantBothWays(t, text[:k])
		}
	}
	// The same with ever longer strings.
	for _, unit := range []string{"a", "ab", "abc"} {
		long := []byte(strings.Repeat(unit, 50000))
		for n := 31000; n < 34000; n += 97 {
			wantBothWays(t, long[:n])
		}
	}
}

func TestPutOfMany(t *testing.T) {
	for _, b := range [][]byte{noise(api.MaxBytes), make([]byte, api.MaxBytes), bytes.Repeat([]byte("one and two and "), api.MaxBytes/16)} {
		put, e := lzw.Put(b)
		got, f := lzw.Get(put, api.MaxBytes)
		if !bytes.Equal(got, b) || e != api.OK || f != api.OK {
			t.Errorf("P12.3: of %d bytes %d came back, %d, %d", len(b), len(got), e, f)
		}
		wantError(t, put, api.MaxBytes-1, api.ErrLong)
		if put, e := lzw.Put(append(b, 1)); len(put) != 0 || e != api.ErrLong {
			t.Errorf("P12.2: Put of %d bytes: %d bytes, %d", len(b)+1, len(put), e)
		}
	}
}

func TestBothWays(t *testing.T) {
	r := rand.New(rand.NewSource(2))
	for range 150 {
		b := make([]byte, r.Intn(20000))
		kinds := []int{1, 2, 3, 17, 256}[r.Intn(5)]
		for i := range b {
			b[i] = byte(r.Intn(kinds))
			if i > 100 && r.Intn(4) > 0 {
				b[i] = b[i-100]
			}
		}
		wantBothWays(t, b)
	}
}

func TestGet(t *testing.T) {
	for _, x := range []struct {
		l    []int
		want string
	}{
		{[]int{257}, ""}, {[]int{256, 257}, ""}, {[]int{256, 256, 256, 257}, ""}, {[]int{97, 257}, "a"}, {[]int{256, 97, 256, 98, 257}, "ab"}, {[]int{97, 98, 258, 257}, "abab"},
		// The next entry, which is not yet in the table.
		{[]int{97, 258, 257}, "aaa"}, {[]int{97, 258, 259, 260, 257}, "aaaaaaaaaa"}, {[]int{97, 98, 259, 257}, "abbb"}, {[]int{97, 98, 258, 260, 257}, "abababa"}, {[]int{256, 97, 98, 258, 260, 261, 97, 257}, "abab" + "aba" + "abaa" + "a"},
		// Entries that are there twice, and codes that are not the longest.
		{[]int{97, 97, 97, 97, 258, 259, 260, 257}, "aaaaaaaaaa"}, {[]int{97, 98, 97, 98, 97, 98, 260, 257}, "abababab"},
		// What was in the table before it was emptied is not.
		{[]int{97, 98, 258, 256, 99, 100, 258, 257}, "ababcdcd"}, {[]int{97, 98, 256, 99, 258, 257}, "abccc"},
		{[]int{0, 255, 258, 257}, "\x00\xff\x00\xff"},
	} {
		b, n := codes(x.l...).bytes(), len(x.want)
		if got, e := reference(b, n); string(got) != x.want || e != api.OK {
			t.Errorf("P12.1: the definition tells %q, %d of %v, want %q", got, e, x.l, x.want)
		}
		wantGet(t, b, n, x.want)
		// What follows the end is ignored.
		wantGet(t, append(b, 0xff, 0, 1), 99, x.want)
		if n > 0 {
			wantError(t, b, n-1, api.ErrLong)
			wantError(t, b, 0, api.ErrLong)
		}
	}
}

func TestWrongCodes(t *testing.T) {
	for _, l := range [][]int{
		{258}, {259}, {511}, {256, 258}, {256, 511}, {97, 259}, {97, 511}, {97, 98, 260}, {97, 258, 260}, {97, 256, 258}, {97, 98, 258, 256, 259}, {97, 98, 256, 99, 259},
	} {
		// It is told at once, and before what is too long.
		for _, most := range []int{6, 999} {
			wantError(t, codes(l...).bytes(), most, api.ErrForm)
			wantError(t, codes(l...).codes(257).bytes(), most, api.ErrForm)
		}
	}
	wantError(t, codes(97, 259).bytes(), 1, api.ErrForm)
	wantError(t, codes(97, 259).bytes(), 0, api.ErrLong)
	wantError(t, codes(97, 258, 260).bytes(), 3, api.ErrForm)
	wantError(t, codes(97, 258, 260).bytes(), 2, api.ErrLong)
	wantError(t, codes(258).bytes(), 0, api.ErrForm)
}

func TestErrorsInOrder(t *testing.T) {
	for _, most := range []int{-1, api.MaxBytes + 1, math.MaxInt, math.MinInt} {
		for _, b := range [][]byte{nil, {0x80}, codes(256, 257).bytes(), codes(258).bytes(), codes(97, 257).bytes()} {
			wantError(t, b, most, api.ErrArg)
		}
	}
	wantError(t, nil, 0, api.ErrMore)
	wantError(t, nil, 9, api.ErrMore)
	wantError(t, []byte{0x80}, 9, api.ErrMore)
	// A missing end comes after a string that is too long.
	wantError(t, codes(97, 98).bytes(), 1, api.ErrLong)
	wantError(t, codes(97, 98).bytes(), 2, api.ErrMore)
	wantError(t, codes(97, 258).bytes(), 2, api.ErrLong)
	wantError(t, codes(97, 258).bytes(), 3, api.ErrMore)
}

func TestCutOff(t *testing.T) {
	for _, b := range [][]byte{[]byte("abababab"), noise(300), noise(800), noise(1900), make([]byte, 3000)} {
		put, _ := lzw.Put(b)
		for n := range put {
			wantError(t, put[:n], api.MaxBytes, api.ErrMore)
		}
		wantGet(t, put, len(b), string(b))
	}
	// Up to eight bits of the end are there.
	for n := range 8 {
		r := codes(256)
		for range 6 + n {
			r.codes(97)
		}
		whole := len(r.bits) / 8 * 8
		if left := len(r.bits) - whole; left > 0 {
			r.codes(257)
			r.bits = r.bits[:whole+8]
		}
		wantError(t, r.bytes(), 99, api.ErrMore)
	}
}

// TestChangesOfLength counts the codes up to each change of their length: the entries are one fewer than the strings.
func TestChangesOfLength(t *testing.T) {
	text := noise(4200)
	for _, n := range []int{253, 254, 255, 765, 766, 767, 1789, 1790, 1791, 3838, 3839, 3840, 4200} {
		r := codes(256)
		for _, x := range text[:n] {
			r.codes(int(x))
		}
		r.codes(257)
		bits := 9 + 9
		for k := range n {
			switch entries := k; { // with the next code
			case entries >= 1789:
				bits += 12
			case entries >= 765:
				bits += 11
			case entries >= 253:
				bits += 10
			default:
				bits += 9
			}
		}
		if len(r.bits) != bits {
			t.Errorf("%d bits were told for %d bytes, want %d", len(r.bits), n, bits)
		}
		wantGet(t, r.bytes(), n, string(text[:n]))
	}
}

// TestFullTable tells more strings than a table has entries, without clearing it.
func TestFullTable(t *testing.T) {
	text := noise(5000)
	r := codes(256)
	for _, x := range text {
		r.codes(int(x))
	}
	want := string(text)
	// The last entry is the 3838th string with the byte behind it.
	for _, entry := range []int{0, 1, 3000, 3836, 3837} {
		r.codes(258 + entry)
		want += string(text[entry : entry+2])
	}
	wantError(t, r.bytes(), api.MaxBytes, api.ErrMore)
	wantGet(t, r.codes(257).bytes(), api.MaxBytes, want)
	// Clearing it is read with twelve bits, and what follows with nine.
	r = &row{}
	for range 2 {
		for _, x := range text {
			r.codes(int(x))
		}
		r.codes(256)
	}
	wantGet(t, r.codes(97, 258, 257).bytes(), api.MaxBytes, string(text)+string(text)+"aaa")
}

func TestWrongBytes(t *testing.T) {
	r := rand.New(rand.NewSource(3))
	for range 3000 {
		b, _ := lzw.Put(bytes.Repeat(noise(1+r.Intn(9)), 1+r.Intn(40)))
		for range r.Intn(4) {
			b[r.Intn(len(b))] = byte(r.Intn(256))
		}
		if r.Intn(4) == 0 {
			b = noise(r.Intn(500))
			for i := range b {
				b[i] ^= byte(r.Intn(4))
			}
		}
		kept := bytes.Clone(b)
		for _, most := range []int{0, 5, 50, 999} {
			got, e := lzw.Get(b, most)
			want, f := reference(b, most)
			if !bytes.Equal(got, want) || e != f {
				t.Fatalf("P12.1: Get(% x, %d): %q, %d, want %q, %d", b, most, got, e, want, f)
			}
		}
		if !bytes.Equal(b, kept) {
			t.Fatal("P12.1: Get changed its bytes")
		}
	}
}

func TestArgumentsAreKept(t *testing.T) {
	all := []byte("xababyyyyyyyy")
	b, _ := lzw.Put(all[1:5])
	told := append(bytes.Clone(b), "yyyyyyyy"...)
	copy(b[:cap(b)], "zzzzzzzzzzzz")
	got, _ := lzw.Get(told[:len(b)], 9)
	copy(got[:cap(got)], "zzzzzzzzzzzz")
	if string(all) != "xababyyyyyyyy" || !bytes.HasSuffix(told, []byte("yyyyyyyy")) {
		t.Errorf("P12.2: bytes that were passed became %q, %q", all, told)
	}
	again, _ := lzw.Put(all[1:5])
	wantGet(t, again, 4, "abab")
}
