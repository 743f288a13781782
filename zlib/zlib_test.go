package zlib_test

import (
	"bytes"
	library "compress/zlib"
	"hash/adler32"
	"io"
	"math"
	"math/rand"
	"slices"
	"strings"
	"testing"

	"erasure/api"
	"erasure/zlib"
)

var abc = []byte{0x78, 0x01, 0x4b, 0x4c, 0x4a, 0x06, 0x00, 0x02, 0x4d, 0x01, 0x27}

// wantSum sums bytes by the definition.
func wantSum(b []byte) int {
	x, y := 1, 0
	for _, c := range b {
		x = (x + int(c)) % 65521
		y = (y + x) % 65521
	}
	return 65536*y + x
}

// texts lists bytes of many kinds, always the same ones.
func texts() [][]byte {
	r := rand.New(rand.NewSource(1))
	l := [][]byte{nil, {0}, {0xff}, []byte("abc"), []byte("Ünïcödé"), []byte("\xe2\x82"), []byte("\xe2\x82\xac"), []byte("\xc0\x80\xf0\x9f\x98\x80\xff"), []byte("\xef\xbf\xbd"), bytes.Repeat([]byte{0xff}, 70000), bytes.Repeat([]byte("\xe2\x82\xac"), 999)}
	for x := range 256 {
		l = append(l, []byte{byte(x)}, []byte{'a', byte(x), byte(255 - x), 'b'})
	}
	for range 200 {
		b := make([]byte, r.Intn(300))
		for i := range b {
			b[i] = byte(r.Intn(256))
		}
		l = append(l, b)
	}
	return l
}

func wantUnpack(t *testing.T, b []byte, most int, want string) {
	t.Helper()
	if got, e := zlib.Unpack(b, most); string(got) != want || e != api.OK {
		t.Errorf("P8.3: Unpack(% x, %d): %q, %d, want %q", b, most, got, e, want)
	}
}

func wantError(t *testing.T, b []byte, most int, want api.Errno) {
	t.Helper()
	if got, e := zlib.Unpack(b, most); len(got) != 0 || e != want {
		t.Errorf("P8.3: Unpack(% x, %d): %q, %d, want error %d", b, most, got, e, want)
	}
}

func TestSum(t *testing.T) {
	for _, x := range []struct {
		text string
		want int
	}{{"", 1}, {"abc", 0x024d0127}, {"a", 0x00620062}, {"\xff", 0x01000100}, {"Wikipedia", 0x11e60398}, {"\x00\x00", 0x00020001}} {
		if n := zlib.Sum([]byte(x.text)); n != x.want {
			t.Errorf("P8.1: Sum(%q): %x, want %x", x.text, n, x.want)
		}
	}
	for _, b := range texts() {
		n := zlib.Sum(b)
		if n != wantSum(b) || n != int(adler32.Checksum(b)) {
			t.Errorf("P8.1: Sum(% x): %x, want %x", b, n, wantSum(b))
		}
	}
}

func TestSumOfMany(t *testing.T) {
	b := make([]byte, 3*api.MaxBytes)
	for i := range b {
		b[i] = byte(i * i >> 7)
	}
	if n := zlib.Sum(b); n != int(adler32.Checksum(b)) {
		t.Errorf("P8.1: Sum of %d bytes: %x, want %x", len(b), n, adler32.Checksum(b))
	}
	// A and B are computed modulo 65521, and both come as far as 65520 and 0.
	for n := 250; n < 270; n++ {
		b := append(bytes.Repeat([]byte{0xff}, n), 0xf0, 0, 1)
		for range 20 {
			if b = append(b, 1); zlib.Sum(b) != wantSum(b) {
				t.Errorf("P8.1: Sum(% x): %x, want %x", b, zlib.Sum(b), wantSum(b))
			}
		}
	}
	full := append(bytes.Repeat([]byte{0xff}, 256), 0xef)
	if n := zlib.Sum(full) % 65536; n != 65520 {
		t.Errorf("P8.1: A is %d, want 65520", n)
	}
	if n := zlib.Sum(append(full, 1)) % 65536; n != 0 {
		t.Errorf("P8.1: A is %d, want 0", n)
	}
}

func TestPack(t *testing.T) {
	if b, e := zlib.Pack([]byte("abc")); !bytes.Equal(b, abc) || e != api.OK {
		t.Errorf("P8.2: Pack(abc): % x, %d", b, e)
	}
	if b, e := zlib.Pack(nil); string(b) != "\x78\x01\x03\x00\x00\x00\x00\x01" || e != api.OK {
		t.Errorf("P8.2: Pack of nothing: % x, %d", b, e)
	}
	if b, e := zlib.Pack([]byte("ababab")); string(b) != "\x78\x01\x4b\x4c\x02\x41\x00\x08\x04\x02\x4a" || e != api.OK {
		t.Errorf("P8.2: Pack(ababab): % x, %d", b, e)
	}
}

func TestPackRefuses(t *testing.T) {
	whole := bytes.Repeat([]byte("zlib"), api.MaxBytes/4)
	if b, e := zlib.Pack(append(whole, 'x')); len(b) != 0 || e != api.ErrLong {
		t.Errorf("P8.2: Pack of a byte too many: %d bytes, %d", len(b), e)
	}
	b, e := zlib.Pack(whole)
	if e != api.OK {
		t.Fatalf("P8.2: Pack of as many bytes as there may be: %d", e)
	}
	if got, e := zlib.Unpack(b, api.MaxBytes); !bytes.Equal(got, whole) || e != api.OK {
		t.Errorf("P8.4: of %d bytes %d came back, %d", len(whole), len(got), e)
	}
	wantError(t, b, api.MaxBytes-1, api.ErrLong)
}

func TestPackIsUnpacked(t *testing.T) {
	for _, text := range texts() {
		b, e := zlib.Pack(text)
		if e != api.OK {
			t.Fatalf("P8.2: Pack(% x): %d", text, e)
		}
		wantUnpack(t, b, len(text), string(text))
		wantUnpack(t, b, api.MaxBytes, string(text))
		r, err := library.NewReader(bytes.NewReader(b))
		if err != nil {
			t.Fatalf("P8.2: Pack(% x): %v", text, err)
		}
		if got, err := io.ReadAll(r); !bytes.Equal(got, text) || err != nil {
			t.Fatalf("P8.2: of Pack(% x) the library unpacks % x: %v", text, got, err)
		}
	}
}

func TestOtherPackers(t *testing.T) {
	for _, text := range append(texts()[:30], []byte(strings.Repeat("row and row and ", 5000))) {
		for _, level := range []int{0, 1, 6, 9} {
			var b bytes.Buffer
			w, err := library.NewWriterLevel(&b, level)
			if err != nil {
				t.Fatal(err)
			}
			w.Write(text)
			w.Close()
			wantUnpack(t, b.Bytes(), len(text), string(text))
			// Bytes after that are ignored.
			wantUnpack(t, append(b.Bytes(), "\x00more"...), len(text), string(text))
		}
	}
}

func TestMost(t *testing.T) {
	for _, most := range []int{-1, api.MaxBytes + 1, math.MinInt, math.MaxInt} {
		for _, b := range [][]byte{abc, nil, {0x78}, {0, 0}, abc[:9], append([]byte{0x79}, abc[1:]...)} {
			wantError(t, b, most, api.ErrArg)
		}
	}
	for _, most := range []int{3, 4, api.MaxBytes} {
		wantUnpack(t, abc, most, "abc")
	}
	for _, most := range []int{0, 1, 2} {
		wantError(t, abc, most, api.ErrLong)
	}
}

// TestHeads tries all headers.
func TestHeads(t *testing.T) {
	taken := 0
	for n := range 1 << 16 {
		first, second := n>>8, n&255
		b := slices.Clone(abc)
		b[0], b[1] = byte(first), byte(second)
		if first&15 == 8 && first>>4 <= 7 && n%31 == 0 && second&0x20 == 0 {
			taken++
			wantUnpack(t, b, 9, "abc")
			wantError(t, b[:2], 9, api.ErrMore)
			continue
		}
		wantError(t, b, 9, api.ErrForm)
		// A wrong header comes before all that follows it.
		wantError(t, b[:2], 9, api.ErrForm)
		wantError(t, b, 0, api.ErrForm)
	}
	if taken != 32 {
		t.Errorf("P8.3: %d headers were tried that are right", taken)
	}
}

// TestWrongHeads has headers of which but one thing is wrong.
func TestWrongHeads(t *testing.T) {
	for _, head := range []string{"\x77\x09", "\x79\x15", "\x70\x07", "\x88\x1c", "\xf8\x06", "\x78\x00", "\x78\x02", "\x79\x01", "\x78\x20", "\x78\xbb"} {
		wantError(t, append([]byte(head), abc[2:]...), 9, api.ErrForm)
	}
	for _, head := range []string{"\x08\x1d", "\x18\x19", "\x78\x01", "\x78\x5e", "\x78\x9c", "\x78\xda"} {
		wantUnpack(t, append([]byte(head), abc[2:]...), 9, "abc")
	}
}

func TestErrorsInOrder(t *testing.T) {
	// Cut off everywhere.
	for n := range abc {
		wantError(t, abc[:n], 9, api.ErrMore)
	}
	wantError(t, nil, 0, api.ErrMore)
	wantError(t, []byte{0xff}, 9, api.ErrMore)
	// What Inflate tells comes before a sum that is wrong or missing.
	wantError(t, []byte("\x78\x01\x07"), 9, api.ErrForm)
	wantError(t, []byte("\x78\x01\x07\x00\x00\x00\x00\x00"), 9, api.ErrForm)
	wantError(t, abc[:7], 2, api.ErrLong)
	wantError(t, append(slices.Clone(abc[:7]), 0, 0, 0, 0), 2, api.ErrLong)
	// A sum that is not whole comes before one that is wrong.
	wantError(t, append(slices.Clone(abc[:7]), 0, 0, 0), 9, api.ErrMore)
	wantError(t, append(slices.Clone(abc[:7]), 0, 0, 0, 0), 9, api.ErrSum)
	for bit := range 32 {
		b := slices.Clone(abc)
		b[7+bit/8] ^= 1 << (bit % 8)
		wantError(t, b, 9, api.ErrSum)
		wantError(t, append(b, abc[7:]...), 9, api.ErrSum)
	}
	little := append(slices.Clone(abc[:7]), 0x27, 0x01, 0x4d, 0x02)
	wantError(t, little, 9, api.ErrSum)
	// Other bytes than those of the sum.
	wantError(t, append([]byte("\x78\x01\x4b\x4c\x4a\x02\x00"), abc[7:]...), 9, api.ErrSum)
	wantError(t, append([]byte("\x78\x01\x01\x03\x00\xfc\xffabd"), abc[7:]...), 9, api.ErrSum)
	wantUnpack(t, append([]byte("\x78\x01\x01\x03\x00\xfc\xffabc"), abc[7:]...), 9, "abc")
}

// TestSumOfBoth computes the sum of a concatenation from those of its parts.
func TestSumOfBoth(t *testing.T) {
	l := texts()
	for i, first := range l {
		second := l[(i*7+3)%len(l)]
		x, y := zlib.Sum(first), zlib.Sum(second)
		a := (x%65536 + y%65536 + 65520) % 65521
		b := (x/65536 + y/65536 + len(second)*(x%65536+65520)) % 65521
		if n := zlib.Sum(slices.Concat(first, second)); n != 65536*b+a {
			t.Errorf("P8.4: Sum of % x and % x: %x, want %x", first, second, n, 65536*b+a)
		}
	}
}

func TestArgumentsAreKept(t *testing.T) {
	all := []byte("xabcabcabcx")
	b, _ := zlib.Pack(all[1:10])
	copy(b[:cap(b)], "zzzzzzzzzzzzzzzzzzzz")
	packed := slices.Concat(abc, []byte("yyyy"))
	got, _ := zlib.Unpack(packed[:11], 9)
	copy(got[:cap(got)], "zzzzzzzzzzzzzzzzzzzz")
	if string(all) != "xabcabcabcx" || string(packed) != string(abc)+"yyyy" {
		t.Errorf("P8.3: bytes that were passed became %q, % x", all, packed)
	}
}
