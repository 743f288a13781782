package predict_test

import (
	"bytes"
	"math"
	"math/rand"
	"slices"
	"testing"

	"erasure/api"
	"erasure/predict"
)

func parms(predictor, colors, bits, columns int) api.Parms {
	return api.Parms{Predictor: predictor, Colors: colors, Bits: bits, Columns: columns}
}

// valid lists parameters of all kinds.
func valid() []api.Parms {
	var l []api.Parms
	for _, predictor := range []int{1, 2, 10, 11, 12, 13, 14, 15} {
		for _, colors := range []int{1, 2, 3, 4, 31, 32} {
			for _, bits := range []int{1, 2, 4, 8, 16} {
				for _, columns := range []int{1, 2, 3, 7, 8, 9, 65535, 65536} {
					l = append(l, parms(predictor, colors, bits, columns))
				}
			}
		}
	}
	return l
}

// wrong lists parameters of which one is not valid.
func wrong() []api.Parms {
	var l []api.Parms
	for _, x := range []int{0, -1, -2, 3, 4, 5, 8, 9, 16, 17, math.MaxInt, math.MinInt} {
		l = append(l, parms(x, 1, 8, 1))
	}
	for _, p := range []int{1, 2, 10, 15} {
		for _, x := range []int{0, -1, 33, math.MaxInt, math.MinInt} {
			l = append(l, parms(p, x, 8, 1))
		}
		for _, x := range []int{0, -1, -8, 3, 5, 6, 7, 9, 12, 15, 17, 24, 32, math.MaxInt, math.MinInt} {
			l = append(l, parms(p, 1, x, 1))
		}
		for _, x := range []int{0, -1, 65537, math.MaxInt, math.MinInt} {
			l = append(l, parms(p, 1, 8, x))
		}
	}
	// ErrArg comes before ErrKind.
	return append(l, api.Parms{}, parms(2, 0, 4, 1), parms(2, 1, 4, 0), parms(2, 33, 16, 65537))
}

// strange lists valid parameters of a kind that is not known.
func strange() []api.Parms {
	return []api.Parms{parms(2, 1, 1, 1), parms(2, 3, 2, 7), parms(2, 32, 4, 65536), parms(2, 3, 16, 1)}
}

func TestCheck(t *testing.T) {
	for _, p := range valid() {
		want := api.OK
		if p.Predictor == 2 && p.Bits != 8 {
			want = api.ErrKind
		}
		if e := predict.Check(p); e != want {
			t.Errorf("P9.1: Check(%v): %d, want %d", p, e, want)
		}
	}
	for _, p := range wrong() {
		if e := predict.Check(p); e != api.ErrArg {
			t.Errorf("P9.1: Check(%v): %d", p, e)
		}
	}
	for _, p := range strange() {
		if e := predict.Check(p); e != api.ErrKind {
			t.Errorf("P9.1: Check(%v): %d", p, e)
		}
	}
}

func TestRow(t *testing.T) {
	for _, x := range []struct{ colors, bits, columns, want int }{
		{1, 1, 1, 1}, {1, 1, 8, 1}, {1, 1, 9, 2}, {1, 2, 4, 1}, {1, 2, 5, 2}, {3, 4, 1, 2}, {3, 4, 2, 3}, {3, 4, 3, 5}, {3, 8, 10, 30}, {1, 16, 3, 6}, {4, 16, 1, 8},
		{5, 1, 3, 2}, {5, 1, 5, 4}, {32, 16, 65536, 4194304}, {1, 1, 65536, 8192}, {32, 1, 1, 4},
	} {
		for _, predictor := range []int{1, 2, 10, 12, 15} {
			if n := predict.Row(parms(predictor, x.colors, x.bits, x.columns)); n != x.want {
				t.Errorf("P9.1: Row of %v with predictor %d: %d", x, predictor, n)
			}
		}
	}
	for _, p := range valid() {
		if n := predict.Row(p); n != int(math.Ceil(float64(p.Colors*p.Bits*p.Columns)/8)) {
			t.Errorf("P9.1: Row(%v): %d", p, n)
		}
	}
	for _, p := range wrong() {
		if n := predict.Row(p); n != 0 {
			t.Errorf("P9.1: Row(%v): %d", p, n)
		}
	}
}

func wantUndo(t *testing.T, p api.Parms, b, want string) {
	t.Helper()
	if got, e := predict.Undo(p, []byte(b)); string(got) != want || e != api.OK {
		t.Errorf("P9.2: Undo(%v, % x): % x, %d, want % x", p, b, got, e, want)
	}
}

func wantDo(t *testing.T, p api.Parms, tag int, b, want string) {
	t.Helper()
	if got, e := predict.Do(p, tag, []byte(b)); string(got) != want || e != api.OK {
		t.Errorf("P9.3: Do(%v, %d, % x): % x, %d, want % x", p, tag, b, got, e, want)
	}
}

func wantUndoError(t *testing.T, p api.Parms, b []byte, want api.Errno) {
	t.Helper()
	if got, e := predict.Undo(p, b); len(got) != 0 || e != want {
		t.Errorf("P9.2: Undo(%v) of %d bytes: %d bytes, %d, want %d", p, len(b), len(got), e, want)
	}
}

func wantDoError(t *testing.T, p api.Parms, tag int, b []byte, want api.Errno) {
	t.Helper()
	if got, e := predict.Do(p, tag, b); len(got) != 0 || e != want {
		t.Errorf("P9.3: Do(%v, %d) of %d bytes: %d bytes, %d, want %d", p, tag, len(b), len(got), e, want)
	}
}

func TestExample(t *testing.T) {
	wantUndo(t, parms(12, 1, 8, 2), "\x02\x01\x02\x01\x05\x01", "\x01\x02\x05\x06")
	wantUndo(t, parms(12, 1, 8, 2), "\x02\x01\x02\x02\x05\x01", "\x01\x02\x06\x03")
}

// TestBothWays has rows and what they become, for each tag.
func TestBothWays(t *testing.T) {
	for _, x := range []struct {
		p          api.Parms
		tag        int
		rows, told string
	}{
		{parms(1, 3, 8, 5), 3, "any bytes", "any bytes"}, {parms(1, 1, 1, 1), 0, "", ""},
		{parms(2, 1, 8, 3), 0, "\x01\x03\x02\xff\x00\x10", "\x01\x02\xff\xff\x01\x10"},
		{parms(2, 3, 8, 2), 4, "\x01\x02\x03\x11\x13\x15", "\x01\x02\x03\x10\x11\x12"},
		{parms(2, 1, 8, 1), 2, "abc", "abc"}, {parms(2, 2, 8, 9), 2, "", ""}, {parms(10, 2, 8, 9), 2, "", ""},
		{parms(10, 1, 8, 3), 0, "\x01\x03\x02\xff\x00\x10", "\x00\x01\x03\x02\x00\xff\x00\x10"},
		{parms(11, 1, 8, 3), 1, "\x01\x03\x02\xff\x00\x10", "\x01\x01\x02\xff\x01\xff\x01\x10"},
		{parms(12, 1, 8, 3), 2, "\x01\x03\x02\xff\x00\x10", "\x02\x01\x03\x02\x02\xfe\xfd\x0e"},
		{parms(13, 1, 8, 3), 3, "\x01\x03\x02\xff\x00\x10", "\x03\x01\x03\x01\x03\xff\x7f\x0f"},
		{parms(14, 1, 8, 3), 4, "\x01\x03\x02\xff\x00\x10", "\x04\x01\x02\xff\x04\xfe\x01\x10"},
		{parms(15, 2, 8, 2), 1, "\x01\x02\x11\x12\xf0\x00\x00\xf0", "\x01\x01\x02\x10\x10\x01\xf0\x00\x10\xf0"},
		{parms(15, 1, 16, 2), 3, "\x01\x02\x11\x12\xf1\x00\x01\xf1", "\x03\x01\x02\x11\x11\x03\xf1\xff\x80\xe8"},
		// A step is at least a byte.
		{parms(11, 1, 1, 24), 1, "\x01\x03\x08", "\x01\x01\x02\x05"}, {parms(11, 3, 2, 4), 1, "\x01\x03\x08", "\x01\x01\x02\x05"}, {parms(11, 3, 4, 2), 1, "\x01\x03\x08", "\x01\x01\x03\x07"},
	} {
		wantDo(t, x.p, x.tag, x.rows, x.told)
		wantUndo(t, x.p, x.told, x.rows)
	}
}

// TestEachPredictor wants the predictors from 10 on to be the same: the tags of the rows tell them apart.
func TestEachPredictor(t *testing.T) {
	for predictor := 10; predictor <= 15; predictor++ {
		p := parms(predictor, 1, 8, 2)
		wantUndo(t, p, "\x00\x01\x02\x01\x01\x02\x02\x01\x02\x03\x01\x02\x04\x01\x02", "\x01\x02\x01\x03\x02\x05\x02\x05\x03\x07")
		for tag := range 5 {
			all, _ := predict.Do(parms(15, 1, 8, 2), tag, []byte("abcdef"))
			wantDo(t, p, tag, "abcdef", string(all))
		}
	}
}

// TestNearest tries all small numbers, and those at the other end.
func TestNearest(t *testing.T) {
	p := parms(14, 1, 8, 2)
	some := []int{0, 1, 2, 3, 4, 5, 127, 128, 129, 250, 251, 253, 254, 255}
	abs := func(x int) int { return int(math.Abs(float64(x))) }
	for _, a := range some {
		for _, b := range some {
			for _, c := range some {
				near := a + b - c
				want := c
				if abs(near-b) <= abs(near-c) {
					want = b
				}
				if abs(near-a) <= abs(near-b) && abs(near-a) <= abs(near-c) {
					want = a
				}
				// The first row is c and b, the second one begins with a; b is what above a tells there.
				told := []byte{0, byte(c), byte(b), 4, byte(a - c), 7}
				got, e := predict.Undo(p, told)
				if e != api.OK || len(got) != 4 || got[2] != byte(a) || got[3] != byte(want+7) {
					t.Errorf("P9.2: a %d, b %d, c %d: % x, %d, want the prediction %d", a, b, c, got, e, want)
				}
			}
		}
	}
}

// foretell is the prediction of a tag by the definition.
func foretell(tag, a, b, c int) int {
	switch tag {
	case 1:
		return a
	case 2:
		return b
	case 3:
		return (a + b) / 2
	case 4:
		best := a
		for _, x := range []int{b, c} {
			if math.Abs(float64(a+b-c-x)) < math.Abs(float64(a+b-c-best)) {
				best = x
			}
		}
		return best
	}
	return 0
}

// wantRows predicts rows by the definition: each has its tag, -1 if no tag is told.
func wantRows(size, step int, told []int, rows []byte) []byte {
	var out []byte
	for r, tag := range told {
		at := func(row, i int) int {
			if row < 0 || i < 0 {
				return 0
			}
			return int(rows[row*size+i])
		}
		if tag >= 0 {
			out = append(out, byte(tag))
		}
		for i := range size {
			x := foretell(max(tag, -tag), at(r, i-step), at(r-1, i), at(r-1, i-step))
			out = append(out, byte(at(r, i)-x))
		}
	}
	return out
}

func TestAgreesWithDefinition(t *testing.T) {
	random := rand.New(rand.NewSource(1))
	for range 2000 {
		p := parms(10+random.Intn(6), 1+random.Intn(5), 1<<random.Intn(5), 1+random.Intn(20))
		if random.Intn(5) == 0 {
			p.Predictor, p.Bits = 2, 8
		}
		size, step := (p.Colors*p.Bits*p.Columns+7)/8, (p.Colors*p.Bits+7)/8
		tag := random.Intn(5)
		same, tags := []int{}, []int{}
		for range random.Intn(6) {
			same, tags = append(same, tag), append(tags, random.Intn(5))
		}
		rows := make([]byte, size*len(tags))
		for i := range rows {
			rows[i] = byte(random.Intn(256))
		}
		if p.Predictor == 2 {
			same = slices.Repeat([]int{-1}, len(tags))
			tags = same
		}
		kept := slices.Clone(rows)
		wantDo(t, p, tag, string(rows), string(wantRows(size, step, same, rows)))
		wantUndo(t, p, string(wantRows(size, step, tags, rows)), string(rows))
		told, e := predict.Do(p, tag, rows)
		got, f := predict.Undo(p, told)
		if !bytes.Equal(got, rows) || !bytes.Equal(rows, kept) || e != api.OK || f != api.OK {
			t.Fatalf("P9.4: of % x by %v, tag %d, % x came back, %d, %d", kept, p, tag, got, e, f)
		}
	}
}

func TestRefuses(t *testing.T) {
	long := make([]byte, api.MaxBytes+1)
	for _, p := range append(wrong(), strange()...) {
		want := predict.Check(p)
		for _, b := range [][]byte{nil, {0}, {0, 0}, {9, 9, 9}, long} {
			wantUndoError(t, p, b, want)
			for _, tag := range []int{0, 4, -1, 5} {
				wantDoError(t, p, tag, b, want)
			}
		}
	}
	for _, p := range []api.Parms{parms(1, 1, 8, 2), parms(2, 1, 8, 2), parms(10, 1, 8, 2), parms(15, 1, 8, 2)} {
		// A tag that is none comes before what is too long or not whole, whatever the predictor is.
		for _, tag := range []int{-1, 5, 6, 256, math.MaxInt, math.MinInt} {
			for _, b := range [][]byte{nil, {0}, {0, 0}, long} {
				wantDoError(t, p, tag, b, api.ErrArg)
			}
		}
		// What is too long comes before what is not whole, or has a wrong tag.
		for _, b := range [][]byte{long, append(slices.Repeat([]byte{9}, api.MaxBytes), 9, 9)} {
			wantUndoError(t, p, b, api.ErrLong)
			wantDoError(t, p, 0, b, api.ErrLong)
		}
	}
}

func TestRowsThatAreNotWhole(t *testing.T) {
	for _, p := range valid() {
		if predict.Check(p) != api.OK || p.Columns > 9 {
			continue
		}
		size := predict.Row(p)
		for n := range 3*size + 4 {
			wantUndoOf, wantDoOf := api.OK, api.OK
			if p.Predictor > 1 && n%size != 0 {
				wantDoOf = api.ErrForm
			}
			if p.Predictor == 2 {
				wantUndoOf = wantDoOf
			}
			if p.Predictor >= 10 && n%(size+1) != 0 {
				wantUndoOf = api.ErrForm
			}
			got, e := predict.Undo(p, make([]byte, n))
			if e != wantUndoOf || e != api.OK && len(got) != 0 {
				t.Fatalf("P9.2: Undo(%v) of %d bytes: %d bytes, %d", p, n, len(got), e)
			}
			got, e = predict.Do(p, 0, make([]byte, n))
			if e != wantDoOf || e != api.OK && len(got) != 0 {
				t.Fatalf("P9.3: Do(%v) of %d bytes: %d bytes, %d", p, n, len(got), e)
			}
		}
	}
}

func TestWrongTags(t *testing.T) {
	for predictor := 10; predictor <= 15; predictor++ {
		p := parms(predictor, 1, 8, 1)
		for tag := 5; tag < 256; tag++ {
			wantUndoError(t, p, []byte{byte(tag), 1}, api.ErrForm)
			wantUndoError(t, p, []byte{0, 1, byte(tag), 1, 0, 1}, api.ErrForm)
			wantUndoError(t, p, []byte{0, 1, 0, 1, byte(tag), 1}, api.ErrForm)
		}
	}
}

func TestGreatRows(t *testing.T) {
	for _, x := range []struct {
		p    api.Parms
		n, m int // bytes for Do and for Undo
	}{{parms(1, 32, 16, 65536), api.MaxBytes, api.MaxBytes}, {parms(2, 16, 8, 65536), api.MaxBytes, api.MaxBytes}, {parms(12, 4, 8, 65536), api.MaxBytes, 3 * (1<<18 + 1)}, {parms(15, 32, 16, 65536), 0, 0}, {parms(15, 1, 8, 1), api.MaxBytes, api.MaxBytes}} {
		b := make([]byte, x.n)
		for i := range b {
			b[i] = byte(i * i >> 5)
		}
		told, e := predict.Do(x.p, 2, b)
		if e != api.OK {
			t.Errorf("P9.3: Do(%v) of %d bytes: %d", x.p, x.n, e)
			continue
		}
		got, e := predict.Undo(x.p, told[:x.m])
		if e != api.OK || !bytes.Equal(got, b[:len(got)]) || x.m > 0 && len(got) < x.m/2 {
			t.Errorf("P9.2: Undo(%v) of %d bytes: %d bytes, %d", x.p, x.m, len(got), e)
		}
	}
	wantUndoError(t, parms(15, 32, 16, 65536), make([]byte, api.MaxBytes), api.ErrForm)
	wantDoError(t, parms(2, 32, 8, 65536), 0, make([]byte, api.MaxBytes), api.ErrForm)
}

func TestArgumentsAreKept(t *testing.T) {
	all := []byte("xx\x02abcdyy")
	for _, p := range []api.Parms{parms(1, 1, 8, 4), parms(2, 1, 8, 5), parms(12, 1, 8, 4)} {
		got, e := predict.Undo(p, all[2:7])
		if e != api.OK {
			t.Errorf("P9.2: Undo(%v): %d", p, e)
		}
		copy(got[:cap(got)], "zzzzzzzzzzzzzzzz")
		p.Columns = 5
		got, e = predict.Do(p, 2, all[2:7])
		if e != api.OK {
			t.Errorf("P9.3: Do(%v): %d", p, e)
		}
		copy(got[:cap(got)], "zzzzzzzzzzzzzzzz")
		if string(all) != "xx\x02abcdyy" {
			t.Errorf("P9.2: bytes that were passed became %q", all)
		}
	}
}
