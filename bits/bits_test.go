package bits_test

import (
	"bytes"
	"math"
	"math/rand"
	"testing"

	"erasure/api"
	"erasure/bits"
)

// reader is a reader by the definition: all bits in a row, and a place in it.
type reader struct {
	row []int
	at  int
}

func newReader(b []byte) *reader {
	r := &reader{}
	for _, x := range b {
		for k := range 8 {
			r.row = append(r.row, int(x)>>k&1)
		}
	}
	return r
}

func (r *reader) bits(n int) (int, api.Errno) {
	switch {
	case n < 0 || n > 24:
		return 0, api.ErrArg
	case n > len(r.row)-r.at:
		return 0, api.ErrMore
	}
	v := 0
	for k := range n {
		v += r.row[r.at+k] << k
	}
	r.at += n
	return v, api.OK
}

func (r *reader) align() {
	for r.at%8 != 0 {
		r.at++
	}
}

func (r *reader) bytes(n int) ([]byte, api.Errno) {
	if n < 0 {
		return nil, api.ErrArg
	}
	r.align()
	if n > (len(r.row)-r.at)/8 {
		return nil, api.ErrMore
	}
	var l []byte
	for range n {
		v, _ := r.bits(8)
		l = append(l, byte(v))
	}
	return l, api.OK
}

// whole returns the bytes of bits, the last one filled with bits 0.
func whole(row []int) []byte {
	l := make([]byte, (len(row)+7)/8)
	for i, x := range row {
		l[i/8] |= byte(x << (i % 8))
	}
	return l
}

// length returns a number of bits that is right most of the time.
func length(r *rand.Rand) int {
	return []int{r.Intn(25), r.Intn(25), r.Intn(9), 0, 1, 8, 16, 24, 25, -1, 32, 64, math.MaxInt, math.MinInt}[r.Intn(14)]
}

func randomBytes(r *rand.Rand, n int) []byte {
	b := make([]byte, n)
	for i := range b {
		b[i] = byte(r.Intn(256))
	}
	return b
}

func wantBits(t *testing.T, r *bits.Reader, n, want int) {
	t.Helper()
	if v, e := r.Bits(n); v != want || e != api.OK {
		t.Errorf("P4.1: Bits(%d): %d, %d, want %d", n, v, e, want)
	}
}

func wantLeft(t *testing.T, r *bits.Reader, want int) {
	t.Helper()
	if n := r.Left(); n != want {
		t.Errorf("P4.1: Left: %d, want %d", n, want)
	}
}

func wantReadAlign(t *testing.T, r *bits.Reader) {
	t.Helper()
	if e := r.Align(); e != api.OK {
		t.Errorf("P4.1: Align: %d", e)
	}
}

func wantBytes(t *testing.T, r *bits.Reader, n int, want string) {
	t.Helper()
	if b, e := r.Bytes(n); string(b) != want || e != api.OK {
		t.Errorf("P4.1: Bytes(%d): % x, %d, want % x", n, b, e, want)
	}
}

func wantBitsError(t *testing.T, r *bits.Reader, n int, want api.Errno) {
	t.Helper()
	if v, e := r.Bits(n); v != 0 || e != want {
		t.Errorf("P4.1: Bits(%d): %d, %d, want error %d", n, v, e, want)
	}
}

func wantBytesError(t *testing.T, r *bits.Reader, n int, want api.Errno) {
	t.Helper()
	if b, e := r.Bytes(n); len(b) != 0 || e != want {
		t.Errorf("P4.1: Bytes(%d): % x, %d, want error %d", n, b, e, want)
	}
}

func wantPut(t *testing.T, w *bits.Writer, v, n int) {
	t.Helper()
	if e := w.Put(v, n); e != api.OK {
		t.Errorf("P4.2: Put(%d, %d): %d", v, n, e)
	}
}

func wantWritten(t *testing.T, w *bits.Writer, want string) {
	t.Helper()
	if b := w.Bytes(); string(b) != want {
		t.Errorf("P4.2: Bytes: % x, want % x", b, want)
	}
}

func TestExample(t *testing.T) {
	w := bits.NewWriter()
	wantPut(t, w, 5, 3)
	wantPut(t, w, 1, 1)
	wantPut(t, w, 0, 5)
	wantWritten(t, w, "\x0d\x00")
	r := bits.NewReader([]byte{0x0d, 0})
	wantBits(t, r, 3, 5)
	wantBits(t, r, 1, 1)
	wantReadAlign(t, r)
	wantLeft(t, r, 8)
}

func TestBits(t *testing.T) {
	r := bits.NewReader([]byte{0xb1, 0x02, 0xff, 0x80, 0x01, 0xfe})
	wantLeft(t, r, 48)
	wantBits(t, r, 0, 0)
	wantBits(t, r, 1, 1)
	wantBits(t, r, 3, 0)
	wantLeft(t, r, 44)
	wantBits(t, r, 8, 0x2b)
	wantBits(t, r, 24, 0x180ff0)
	wantLeft(t, r, 12)
	wantBits(t, r, 12, 0xfe0)
	wantLeft(t, r, 0)
	wantBits(t, r, 0, 0)
}

func TestBitsRefuses(t *testing.T) {
	r := bits.NewReader([]byte{0xa5, 0xc3, 0x0f})
	for _, n := range []int{-1, 25, 32, 64, math.MaxInt, math.MinInt} {
		wantBitsError(t, r, n, api.ErrArg)
		wantLeft(t, r, 24)
	}
	wantBits(t, r, 3, 5)
	wantBitsError(t, r, 22, api.ErrMore)
	wantBitsError(t, r, 24, api.ErrMore)
	wantLeft(t, r, 21)
	// Nothing was read by the calls that failed.
	wantBits(t, r, 21, 0x0fc3a5>>3)
	wantBitsError(t, r, 1, api.ErrMore)
	// ErrArg also where nothing is left.
	wantBitsError(t, r, 25, api.ErrArg)
	wantBitsError(t, r, -1, api.ErrArg)
	wantBitsError(t, bits.NewReader(nil), 1, api.ErrMore)
	wantBits(t, bits.NewReader(nil), 0, 0)
}

func TestReaderAlign(t *testing.T) {
	r := bits.NewReader([]byte{0xff, 0x5a, 0x96})
	wantReadAlign(t, r)
	wantLeft(t, r, 24)
	wantBits(t, r, 0, 0)
	wantReadAlign(t, r)
	wantLeft(t, r, 24)
	wantBits(t, r, 1, 1)
	wantReadAlign(t, r)
	wantReadAlign(t, r)
	wantLeft(t, r, 16)
	wantBits(t, r, 8, 0x5a)
	wantReadAlign(t, r)
	wantLeft(t, r, 8)
	wantBits(t, r, 7, 0x16)
	wantReadAlign(t, r)
	wantLeft(t, r, 0)
	wantReadAlign(t, r)
	wantBitsError(t, r, 1, api.ErrMore)
	none := bits.NewReader(nil)
	wantReadAlign(t, none)
	wantLeft(t, none, 0)
}

func TestReaderBytes(t *testing.T) {
	r := bits.NewReader([]byte("abcdefgh"))
	wantBytes(t, r, 2, "ab")
	wantBits(t, r, 1, 1)
	wantBytes(t, r, 2, "de")
	wantLeft(t, r, 24)
	wantBits(t, r, 8, 'f')
	wantBytes(t, r, 1, "g")
	wantBits(t, r, 4, 8)
	// No bytes begin at a whole byte as well.
	wantBytes(t, r, 0, "")
	wantLeft(t, r, 0)
	wantBytes(t, r, 0, "")
	wantBytes(t, bits.NewReader(nil), 0, "")
}

func TestReaderBytesRefuses(t *testing.T) {
	r := bits.NewReader([]byte("abcd"))
	wantBits(t, r, 1, 1)
	// A negative number is refused without Align.
	wantBytesError(t, r, -1, api.ErrArg)
	wantBytesError(t, r, math.MinInt, api.ErrArg)
	wantLeft(t, r, 31)
	wantBits(t, r, 3, 0)
	// Too few bytes are told behind it, and none of them is read.
	for _, n := range []int{4, 5, math.MaxInt, math.MaxInt / 8, math.MaxInt/8 + 1, 1 << 61} {
		wantBytesError(t, r, n, api.ErrMore)
		wantLeft(t, r, 24)
	}
	wantBytes(t, r, 3, "bcd")
	wantBytesError(t, r, 1, api.ErrMore)
	wantBytesError(t, r, -1, api.ErrArg)
	wantBytesError(t, bits.NewReader(nil), 1, api.ErrMore)
}

func TestReaderKeepsNothingOfOthers(t *testing.T) {
	all := []byte("abcdef")
	b := all[1:4]
	r := bits.NewReader(b)
	got, _ := r.Bytes(2)
	copy(got[:cap(got)], "xxxxxxxx")
	if string(all) != "abcdef" {
		t.Errorf("P4.1: bytes that were passed became %q", all)
	}
	b[2] = 'y'
	wantBytes(t, r, 1, "d")
}

func TestReaderAgreesWithDefinition(t *testing.T) {
	random := rand.New(rand.NewSource(1))
	for range 3000 {
		b := randomBytes(random, random.Intn(40))
		got, want := bits.NewReader(bytes.Clone(b)), newReader(b)
		for range 30 {
			step(t, random, got, want)
		}
	}
}

// step does one call on both readers.
func step(t *testing.T, random *rand.Rand, got *bits.Reader, want *reader) {
	t.Helper()
	n := length(random)
	switch random.Intn(6) {
	case 0:
		wantReadAlign(t, got)
		want.align()
	case 1:
		b, e := got.Bytes(n)
		c, f := want.bytes(n)
		if !bytes.Equal(b, c) || e != f {
			t.Fatalf("P4.1: Bytes(%d): % x, %d, want % x, %d", n, b, e, c, f)
		}
	default:
		v, e := got.Bits(n)
		u, f := want.bits(n)
		if v != u || e != f {
			t.Fatalf("P4.1: Bits(%d): %d, %d, want %d, %d", n, v, e, u, f)
		}
	}
	if n := got.Left(); n != len(want.row)-want.at {
		t.Fatalf("P4.1: Left: %d, want %d", n, len(want.row)-want.at)
	}
}

func TestPut(t *testing.T) {
	w := bits.NewWriter()
	wantWritten(t, w, "")
	wantPut(t, w, 0, 0)
	wantWritten(t, w, "")
	wantPut(t, w, 1, 1)
	wantWritten(t, w, "\x01")
	wantPut(t, w, 0x2b, 7)
	wantWritten(t, w, "\x57")
	wantPut(t, w, 0xabcdef, 24)
	wantWritten(t, w, "\x57\xef\xcd\xab")
	wantPut(t, w, 0, 3)
	wantWritten(t, w, "\x57\xef\xcd\xab\x00")
	wantPut(t, w, 1<<24-1, 24)
	wantPut(t, w, 0, 5)
	wantPut(t, w, 1<<15, 16)
	wantWritten(t, w, "\x57\xef\xcd\xab\xf8\xff\xff\x07\x00\x80")
}

func TestPutRefuses(t *testing.T) {
	w := bits.NewWriter()
	wantPut(t, w, 5, 3)
	for _, x := range [][2]int{
		{0, -1}, {0, 25}, {1, 25}, {0, 32}, {0, 64}, {0, math.MaxInt}, {0, math.MinInt}, {-1, -1},
		{1, 0}, {2, 1}, {8, 3}, {256, 8}, {1 << 23, 23}, {1 << 24, 24}, {1 << 32, 24}, {math.MaxInt, 24},
		{-1, 0}, {-1, 1}, {-1, 8}, {-1, 24}, {math.MinInt, 24}, {math.MinInt, 0},
	} {
		if e := w.Put(x[0], x[1]); e != api.ErrArg {
			t.Errorf("P4.2: Put(%d, %d): %d", x[0], x[1], e)
		}
	}
	// Nothing was put by the calls that failed.
	wantPut(t, w, 31, 5)
	wantWritten(t, w, "\xfd")
}

func TestPutOfEachLength(t *testing.T) {
	for n := 1; n <= 24; n++ {
		w := bits.NewWriter()
		wantPut(t, w, 0, n)
		wantPut(t, w, 1<<n-1, n)
		wantPut(t, w, 1<<(n-1), n)
		row := make([]int, 3*n)
		for i := n; i < 2*n; i++ {
			row[i] = 1
		}
		row[3*n-1] = 1
		wantWritten(t, w, string(whole(row)))
	}
}

func TestWriterAlign(t *testing.T) {
	w := bits.NewWriter()
	align := func() {
		t.Helper()
		if e := w.Align(); e != api.OK {
			t.Errorf("P4.2: Align: %d", e)
		}
	}
	align()
	wantWritten(t, w, "")
	wantPut(t, w, 1, 1)
	align()
	align()
	wantWritten(t, w, "\x01")
	wantPut(t, w, 3, 2)
	wantWritten(t, w, "\x01\x03")
	align()
	wantPut(t, w, 0xff, 8)
	align()
	wantPut(t, w, 0, 1)
	align()
	wantWritten(t, w, "\x01\x03\xff\x00")
}

func TestWrittenBytesAreNew(t *testing.T) {
	w := bits.NewWriter()
	var all [][]byte
	for i := range 40 {
		wantPut(t, w, 1, 4)
		b := w.Bytes()
		all = append(all, b)
		for k := len(b); k < cap(b); k++ { // what others do behind their bytes is nothing to the writer
			b[:cap(b)][k] = 0xee
		}
		if len(b) != i/2+1 {
			t.Fatalf("P4.2: %d bytes of %d bits", len(b), 4*(i+1))
		}
	}
	for i, b := range all {
		want := bytes.Repeat([]byte{0x11}, i/2+1)
		if i%2 == 0 {
			want[i/2] = 1
		}
		if !bytes.Equal(b, want) {
			t.Errorf("P4.2: bytes became % x, they were % x", b, want)
		}
		clear(b)
	}
	wantWritten(t, w, string(bytes.Repeat([]byte{0x11}, 20)))
}

func TestNil(t *testing.T) {
	var r *bits.Reader
	for _, n := range []int{0, 1, 24, 25, -1, math.MaxInt} {
		wantBitsError(t, r, n, api.ErrNil)
		wantBytesError(t, r, n, api.ErrNil)
	}
	if e := r.Align(); e != api.ErrNil {
		t.Errorf("P4.2: Align of a nil reader: %d", e)
	}
	wantLeft(t, r, 0)
	var w *bits.Writer
	for _, x := range [][2]int{{0, 0}, {1, 1}, {2, 1}, {0, 25}, {0, -1}, {-1, 1}} {
		if e := w.Put(x[0], x[1]); e != api.ErrNil {
			t.Errorf("P4.2: Put(%d, %d) on a nil writer: %d", x[0], x[1], e)
		}
	}
	if e := w.Align(); e != api.ErrNil {
		t.Errorf("P4.2: Align of a nil writer: %d", e)
	}
	if b := w.Bytes(); len(b) != 0 {
		t.Errorf("P4.2: Bytes of a nil writer: % x", b)
	}
}

func TestWriterAgreesWithDefinition(t *testing.T) {
	random := rand.New(rand.NewSource(2))
	for range 2000 {
		w := bits.NewWriter()
		var row []int
		for range random.Intn(60) {
			n := random.Intn(25)
			v := random.Intn(1 << n)
			wantPut(t, w, v, n)
			for k := range n {
				row = append(row, v>>k&1)
			}
			if random.Intn(8) == 0 {
				w.Align()
				row = append(row, make([]int, (8-len(row)%8)%8)...)
			}
			if random.Intn(4) == 0 {
				wantWritten(t, w, string(whole(row)))
			}
		}
		wantWritten(t, w, string(whole(row)))
	}
}

func TestWrittenIsRead(t *testing.T) {
	random := rand.New(rand.NewSource(3))
	for range 2000 {
		w := bits.NewWriter()
		var put [][2]int // number and length, or a length -1 for Align
		for range random.Intn(80) {
			n := random.Intn(26) - 1
			if n < 0 {
				w.Align()
				put = append(put, [2]int{0, n})
				continue
			}
			v := random.Intn(1 << n)
			wantPut(t, w, v, n)
			put = append(put, [2]int{v, n})
		}
		r := bits.NewReader(w.Bytes())
		for _, x := range put {
			if x[1] < 0 {
				r.Align()
			} else if v, e := r.Bits(x[1]); v != x[0] || e != api.OK {
				t.Fatalf("P4.3: Bits(%d): %d, %d, but %d was put", x[1], v, e, x[0])
			}
		}
		if n := r.Left(); n > 7 {
			t.Fatalf("P4.3: %d bits more than were put", n)
		}
	}
}
