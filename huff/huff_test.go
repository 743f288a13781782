package huff_test

import (
	"math"
	"math/rand"
	"slices"
	"sort"
	"testing"

	"erasure/api"
	"erasure/bits"
	"erasure/huff"
)

// same returns n lengths that are all the same.
func same(n, length int) []int {
	return slices.Repeat([]int{length}, n)
}

// wantCodes assigns codes as the document says it, one after the other.
func wantCodes(lengths []int) []int {
	var order []int
	for s, l := range lengths {
		if l > 0 {
			order = append(order, s)
		}
	}
	sort.SliceStable(order, func(i, j int) bool { return lengths[order[i]] < lengths[order[j]] })
	codes := make([]int, len(lengths))
	for i, s := range order {
		if i > 0 {
			before := order[i-1]
			codes[s] = (codes[before] + 1) << (lengths[s] - lengths[before])
		}
	}
	return codes
}

// complete returns lengths with so many codes that leave no bits without a
// meaning, and symbols without a code among them.
func complete(r *rand.Rand, codes, others int) []int {
	l := []int{1, 1}
	for len(l) < codes {
		i := r.Intn(len(l))
		if r.Intn(2) == 0 {
			i = len(l) - 1
		}
		if l[i] < 15 {
			l[i]++
			l = append(l, l[i])
		}
	}
	l = append(l, make([]int, others)...)
	r.Shuffle(len(l), func(i, j int) { l[i], l[j] = l[j], l[i] })
	return l
}

// deep is the complete list whose codes have all lengths up to 15.
func deep() []int {
	var l []int
	for n := 1; n <= 15; n++ {
		l = append(l, n)
	}
	return append(l, 15)
}

func table(t *testing.T, lengths []int) *huff.Table {
	t.Helper()
	x, e := huff.Make(lengths)
	if x == nil || e != api.OK {
		t.Fatalf("P5.2: Make(%v): %d", lengths, e)
	}
	return x
}

// reader returns a reader of a row of 0 and 1. What it has behind them is more
// than the row only if the row is no whole byte, and then it is skipped first.
func reader(t *testing.T, row string) *bits.Reader {
	t.Helper()
	w := bits.NewWriter()
	skip := (8 - len(row)%8) % 8
	w.Put(0, skip)
	for _, x := range row {
		w.Put(int(x-'0'), 1)
	}
	r := bits.NewReader(w.Bytes())
	if r.Bits(skip); r.Left() != len(row) {
		t.Fatalf("%d bits are left of %q", r.Left(), row)
	}
	return r
}

// row returns the bits of a code, the most significant one first.
func row(code, length int) string {
	var b []byte
	for i := length - 1; i >= 0; i-- {
		b = append(b, byte('0'+code>>i&1))
	}
	return string(b)
}

// written returns the first n bits of w.
func written(t *testing.T, w *bits.Writer, n int) string {
	t.Helper()
	r := bits.NewReader(w.Bytes())
	var b []byte
	for range n {
		v, e := r.Bits(1)
		if e != api.OK {
			t.Fatalf("P5.2: fewer than %d bits were put", n)
		}
		b = append(b, byte('0'+v))
	}
	return string(b)
}

func wantRead(t *testing.T, x *huff.Table, r *bits.Reader, want, left int) {
	t.Helper()
	if s, e := x.Read(r); s != want || e != api.OK {
		t.Errorf("P5.2: Read: %d, %d, want %d", s, e, want)
	}
	if n := r.Left(); n != left {
		t.Errorf("P5.2: Read left %d bits, want %d", n, left)
	}
}

func wantReadError(t *testing.T, x *huff.Table, r *bits.Reader, want api.Errno, left int) {
	t.Helper()
	if s, e := x.Read(r); s != 0 || e != want {
		t.Errorf("P5.2: Read: %d, %d, want error %d", s, e, want)
	}
	if n := r.Left(); n != left {
		t.Errorf("P5.2: Read left %d bits, want %d", n, left)
	}
}

func TestCodes(t *testing.T) {
	for _, x := range []struct{ lengths, want []int }{
		{nil, nil}, {[]int{0}, []int{0}}, {[]int{0, 0, 0}, []int{0, 0, 0}},
		{[]int{3, 3, 3, 3, 3, 2, 4, 4}, []int{2, 3, 4, 5, 6, 0, 14, 15}},
		{[]int{2, 1, 3, 3}, []int{2, 0, 6, 7}}, {[]int{1, 1}, []int{0, 1}}, {[]int{0, 1, 0, 1}, []int{0, 0, 0, 1}},
		// Codes that leave bits without a meaning are codes all the same.
		{[]int{1}, []int{0}}, {[]int{5}, []int{0}}, {[]int{2, 0, 2}, []int{0, 0, 1}}, {[]int{3, 15, 1}, []int{4, 5 << 12, 0}}, {[]int{15, 15}, []int{0, 1}},
		{deep(), []int{0, 2, 6, 14, 30, 62, 126, 254, 510, 1022, 2046, 4094, 8190, 16382, 32766, 32767}},
	} {
		if got, e := huff.Codes(x.lengths); !slices.Equal(got, x.want) || e != api.OK {
			t.Errorf("P5.1: Codes(%v): %v, %d, want %v", x.lengths, got, e, x.want)
		}
	}
}

func TestCodesOfManySymbols(t *testing.T) {
	got, e := huff.Codes(same(320, 9))
	if len(got) != 320 || e != api.OK {
		t.Fatalf("P5.1: Codes of 320 lengths: %d codes, %d", len(got), e)
	}
	for s, code := range got {
		if code != s {
			t.Errorf("P5.1: of 320 lengths 9, the code of %d: %d", s, code)
		}
	}
	if got, e := huff.Codes(same(320, 0)); !slices.Equal(got, same(320, 0)) || e != api.OK {
		t.Errorf("P5.1: Codes of 320 lengths 0: %v, %d", got, e)
	}
}

// wrong lists lengths that no codes have, by the error that tells so.
func wrong() map[api.Errno][][]int {
	return map[api.Errno][][]int{
		api.ErrArg: {
			{16}, {-1}, {math.MaxInt}, {math.MinInt}, {64}, {1, 1, 16}, {-1, 1, 1}, {0, -1}, {3, 3, 3, 16, 3},
			same(321, 0), same(321, 9), same(5000, 15), append(same(320, 0), 1),
			// More codes than there can be as well.
			{1, 1, 1, 16}, {1, 1, 1, -1}, {16, 1, 1, 1}, same(321, 1), append(same(320, 1), 16),
		},
		api.ErrForm: {
			{1, 1, 1}, {1, 1, 15}, {1, 2, 2, 15}, {2, 2, 2, 2, 2}, {15, 1, 1}, {0, 1, 0, 1, 0, 1}, same(257, 8), same(320, 1), append(deep(), 15), append(deep(), 14),
		},
	}
}

func TestWrongLengths(t *testing.T) {
	for want, l := range wrong() {
		for _, lengths := range l {
			if got, e := huff.Codes(lengths); len(got) != 0 || e != want {
				t.Errorf("P5.1: Codes(%v): %v, %d, want %d", lengths, got, e, want)
			}
			if x, e := huff.Make(lengths); x != nil || e != want {
				t.Errorf("P5.2: Make(%v): %v, %d, want %d", lengths, x, e, want)
			}
		}
	}
}

func TestCodesAgreeWithDefinition(t *testing.T) {
	r := rand.New(rand.NewSource(1))
	for range 500 {
		lengths := complete(r, 2+r.Intn(260), r.Intn(50))
		// Without some of them the others are codes as well.
		for range r.Intn(5) {
			lengths[r.Intn(len(lengths))] = 0
		}
		kept := slices.Clone(lengths)
		want := wantCodes(lengths)
		if got, e := huff.Codes(lengths); !slices.Equal(got, want) || e != api.OK {
			t.Fatalf("P5.1: Codes(%v): %v, %d, want %v", lengths, got, e, want)
		}
		if !slices.Equal(lengths, kept) {
			t.Fatalf("P5.1: Codes changed %v to %v", kept, lengths)
		}
	}
}

func TestMake(t *testing.T) {
	for _, lengths := range [][]int{
		nil, {0}, {0, 0, 0}, same(320, 0), {1}, {0, 1}, {1, 0, 0}, {0, 0, 1, 0}, append(same(319, 0), 1),
		{1, 1}, {1, 0, 1}, {2, 2, 2, 2}, {1, 2, 2}, {3, 3, 3, 3, 3, 2, 4, 4}, same(256, 8), deep(), huff.Fixed(), same(32, 5),
	} {
		table(t, lengths)
	}
	for _, lengths := range [][]int{
		{2}, {3}, {15}, {0, 2, 0}, {2, 2}, {1, 2}, {2, 2, 2}, {1, 2, 15}, {1, 15}, {15, 15}, {3, 3, 3, 3}, {2, 3, 3}, same(255, 8), same(31, 5), same(320, 9), same(320, 15), deep()[1:], deep()[:15],
	} {
		if x, e := huff.Make(lengths); x != nil || e != api.ErrForm {
			t.Errorf("P5.2: Make(%v): %v, %d", lengths, x, e)
		}
	}
}

func TestReadAndPut(t *testing.T) {
	x := table(t, []int{3, 3, 3, 3, 3, 2, 4, 4})
	codes := []string{"010", "011", "100", "101", "110", "00", "1110", "1111"}
	for s, code := range codes {
		r := reader(t, code+"10")
		wantRead(t, x, r, s, 2)
		w := bits.NewWriter()
		if e := x.Put(w, s); e != api.OK {
			t.Errorf("P5.2: Put(%d): %d", s, e)
		}
		if got := written(t, w, len(code)); got != code || len(w.Bytes()) != 1 {
			t.Errorf("P5.2: Put(%d): %s, want %s", s, got, code)
		}
		// The code is all that was put.
		w.Put(1, 1)
		if got := written(t, w, len(code)+1); got != code+"1" {
			t.Errorf("P5.2: Put(%d), and a bit 1: %s", s, got)
		}
	}
}

func TestReadOfManyCodes(t *testing.T) {
	for _, lengths := range [][]int{deep(), huff.Fixed(), same(32, 5), {0, 1, 0, 2, 0, 2}, {1, 1}} {
		x := table(t, lengths)
		codes := wantCodes(lengths)
		for s, length := range lengths {
			if length == 0 {
				continue
			}
			code := row(codes[s], length)
			wantRead(t, x, reader(t, code), s, 0)
			wantRead(t, x, reader(t, code+"1"), s, 1)
			for n := range length { // a part of a code is none
				wantReadError(t, x, reader(t, code[:n]), api.ErrMore, 0)
			}
		}
	}
}

func TestReadWithoutCodes(t *testing.T) {
	for _, lengths := range [][]int{nil, {0}, same(320, 0)} {
		x := table(t, lengths)
		for n := range 15 {
			wantReadError(t, x, reader(t, row(0x2aaa, n)), api.ErrMore, 0)
		}
		for n := 15; n < 40; n++ {
			wantReadError(t, x, reader(t, row(0, n)), api.ErrForm, n-15)
			wantReadError(t, x, reader(t, row(1<<n-1, n)), api.ErrForm, n-15)
		}
		r := reader(t, row(0, 40))
		wantReadError(t, x, r, api.ErrForm, 25)
		wantReadError(t, x, r, api.ErrForm, 10)
		wantReadError(t, x, r, api.ErrMore, 0)
		wantReadError(t, x, r, api.ErrMore, 0)
	}
}

func TestReadOfASingleCode(t *testing.T) {
	for _, lengths := range [][]int{{1}, {0, 0, 1, 0}} {
		x := table(t, lengths)
		s := slices.Index(lengths, 1)
		wantRead(t, x, reader(t, "0"), s, 0)
		wantRead(t, x, reader(t, "01"), s, 1)
		wantReadError(t, x, reader(t, ""), api.ErrMore, 0)
		for _, rest := range []int{0, 0x2aaa, 0x1555, 1<<14 - 1} {
			for n := range 14 {
				wantReadError(t, x, reader(t, "1"+row(rest>>(14-n), n)), api.ErrMore, 0)
			}
			wantReadError(t, x, reader(t, "1"+row(rest, 14)), api.ErrForm, 0)
			r := reader(t, "1"+row(rest, 14)+"0")
			wantReadError(t, x, r, api.ErrForm, 1)
			wantRead(t, x, r, s, 0)
		}
	}
}

func TestPutRefuses(t *testing.T) {
	for _, lengths := range [][]int{nil, {0, 0}, {1}, {0, 1, 0, 2, 2}, huff.Fixed()} {
		x := table(t, lengths)
		w := bits.NewWriter()
		w.Put(1, 1)
		wrong := []int{-1, len(lengths), len(lengths) + 1, 320, math.MaxInt, math.MinInt}
		for s, length := range lengths {
			if length == 0 {
				wrong = append(wrong, s)
			}
		}
		for _, s := range wrong {
			if e := x.Put(w, s); e != api.ErrNone {
				t.Errorf("P5.2: Put(%d) of %v: %d", s, lengths, e)
			}
		}
		// Nothing was put by the calls that failed.
		if w.Put(127, 7); string(w.Bytes()) != "\xff" {
			t.Errorf("P5.2: bytes that were put with errors: % x", w.Bytes())
		}
	}
}

func TestNil(t *testing.T) {
	var none *huff.Table
	some := table(t, []int{1, 1})
	empty := table(t, nil)
	w, r := bits.NewWriter(), bits.NewReader([]byte{0})
	for _, s := range []int{0, 1, -1, 2, math.MaxInt} {
		for _, x := range []struct {
			t *huff.Table
			w *bits.Writer
		}{{none, w}, {some, nil}, {none, nil}, {empty, nil}} {
			if e := x.t.Put(x.w, s); e != api.ErrNil {
				t.Errorf("P5.2: Put(%d) with nil: %d", s, e)
			}
		}
	}
	for _, x := range []struct {
		t *huff.Table
		r *bits.Reader
	}{{none, r}, {none, bits.NewReader(nil)}, {some, nil}, {none, nil}, {empty, nil}} {
		if s, e := x.t.Read(x.r); s != 0 || e != api.ErrNil {
			t.Errorf("P5.2: Read with nil: %d, %d", s, e)
		}
	}
	if len(w.Bytes()) != 0 || r.Left() != 8 {
		t.Errorf("P5.2: % x were put and %d bits are left", w.Bytes(), r.Left())
	}
}

func TestTableKeepsNothingOfOthers(t *testing.T) {
	all := []int{9, 3, 3, 3, 3, 3, 2, 4, 4, 9}
	lengths := all[1:9]
	kept := slices.Clone(all)
	x := table(t, lengths)
	if !slices.Equal(all, kept) {
		t.Errorf("P5.2: Make changed %v to %v", kept, all)
	}
	clear(all)
	wantRead(t, x, reader(t, "1110"), 6, 0)
	w := bits.NewWriter()
	if e := x.Put(w, 7); e != api.OK || written(t, w, 4) != "1111" {
		t.Errorf("P5.2: Put(7): %d, % x", e, w.Bytes())
	}
}

func TestFixed(t *testing.T) {
	l := huff.Fixed()
	if len(l) != 288 {
		t.Fatalf("P5.3: %d lengths", len(l))
	}
	for s, length := range l {
		want := 8
		if s >= 144 && s <= 255 {
			want = 9
		}
		if s >= 256 && s <= 279 {
			want = 7
		}
		if length != want {
			t.Errorf("P5.3: the length of %d: %d, want %d", s, length, want)
		}
	}
	clear(l)
	if again := huff.Fixed(); len(again) != 288 || again[0] != 8 || again[287] != 8 {
		t.Errorf("P5.3: Fixed is %v once its result was changed", again)
	}
}

// TestFixedCodes takes the codes from RFC 1951.
func TestFixedCodes(t *testing.T) {
	codes, e := huff.Codes(huff.Fixed())
	if len(codes) != 288 || e != api.OK {
		t.Fatalf("P5.3: %d codes, %d", len(codes), e)
	}
	for s, want := range map[int]int{0: 0x30, 97: 0x91, 143: 0xbf, 144: 0x190, 255: 0x1ff, 256: 0, 279: 0x17, 280: 0xc0, 287: 0xc7} {
		if codes[s] != want {
			t.Errorf("P5.3: the code of %d: %x, want %x", s, codes[s], want)
		}
	}
}

func TestPutIsRead(t *testing.T) {
	random := rand.New(rand.NewSource(2))
	for range 300 {
		lengths := complete(random, 2+random.Intn(260), random.Intn(50))
		x := table(t, lengths)
		w := bits.NewWriter()
		var put []int
		for len(put) < 200 {
			s := random.Intn(len(lengths))
			e := x.Put(w, s)
			if lengths[s] == 0 {
				if e != api.ErrNone {
					t.Fatalf("P5.4: Put(%d), which has no code: %d", s, e)
				}
				continue
			}
			if e != api.OK {
				t.Fatalf("P5.4: Put(%d): %d", s, e)
			}
			put = append(put, s)
		}
		r := bits.NewReader(w.Bytes())
		for _, s := range put {
			if got, e := x.Read(r); got != s || e != api.OK {
				t.Fatalf("P5.4: Read: %d, %d, but %d was put (%v)", got, e, s, lengths)
			}
		}
		if r.Left() > 7 {
			t.Fatalf("P5.4: %d bits more than were put", r.Left())
		}
	}
}

func TestNoCodeBeginsAnother(t *testing.T) {
	random := rand.New(rand.NewSource(3))
	for range 50 {
		lengths := complete(random, 2+random.Intn(200), random.Intn(20))
		codes, e := huff.Codes(lengths)
		if e != api.OK {
			t.Fatalf("P5.4: Codes(%v): %d", lengths, e)
		}
		for a, short := range lengths {
			for b, long := range lengths {
				if a != b && 0 < short && short <= long && codes[b]>>(long-short) == codes[a] {
					t.Fatalf("P5.4: the code of %d begins that of %d: %v", a, b, lengths)
				}
			}
		}
	}
}
