package chain_test

import (
	"bytes"
	"compress/zlib"
	"encoding/hex"
	"io"
	"math"
	"math/rand"
	"slices"
	"strings"
	"testing"

	"erasure/api"
	"erasure/ascii"
	"erasure/chain"
	"erasure/lzw"
	"erasure/predict"
	"erasure/run"
	erasurezlib "erasure/zlib"
)

const (
	hexName   = "ASCIIHexDecode"
	base85    = "ASCII85Decode"
	runName   = "RunLengthDecode"
	lzwName   = "LZWDecode"
	flateName = "FlateDecode"
)

func names() []string {
	return []string{hexName, base85, runName, lzwName, flateName}
}

func filters(names ...string) []api.Filter {
	var l []api.Filter
	for _, n := range names {
		l = append(l, api.Filter{Name: n})
	}
	return l
}

func with(name string, predictor, colors, bits, columns int) api.Filter {
	return api.Filter{Name: name, Parms: api.Parms{Predictor: predictor, Colors: colors, Bits: bits, Columns: columns}}
}

func TestCheck(t *testing.T) {
	good := with(flateName, 12, 1, 8, 2)
	wrong := with(lzwName, 3, 1, 8, 2)
	strange := with(flateName, 2, 1, 4, 2)
	hexParms := with(hexName, 12, 1, 8, 2)
	unknown := api.Filter{Name: "Other"}
	for _, c := range []struct {
		name string
		l    []api.Filter
		want api.Errno
	}{
		{"no filters", nil, api.OK},
		{"an empty list", []api.Filter{}, api.OK},
		{"each", filters(names()...), api.OK},
		{"one twice", filters(hexName, hexName), api.OK},
		{"8", slices.Repeat(filters(hexName), 8), api.OK},
		{"9", slices.Repeat(filters(hexName), 9), api.ErrLong},
		{"9 that are none", slices.Repeat([]api.Filter{unknown}, 9), api.ErrLong},
		{"9 with parms", slices.Repeat([]api.Filter{hexParms}, 9), api.ErrLong},
		{"8 and the last is none", append(filters(slices.Repeat([]string{runName}, 7)...), unknown), api.ErrKind},
		{"8 and the last has wrong parms", append(filters(slices.Repeat([]string{runName}, 7)...), wrong), api.ErrArg},
		{"good parms", []api.Filter{good}, api.OK},
		{"good parms for LZW", []api.Filter{with(lzwName, 2, 3, 8, 7)}, api.OK},
		{"the predictor that does nothing", []api.Filter{with(lzwName, 1, 1, 8, 1)}, api.OK},
		{"wrong parms", []api.Filter{wrong}, api.ErrArg},
		{"strange parms", []api.Filter{strange}, api.ErrKind},
		{"hex with parms", []api.Filter{hexParms}, api.ErrArg},
		{"base 85 with parms", []api.Filter{with(base85, 12, 1, 8, 2)}, api.ErrArg},
		{"run with parms", []api.Filter{with(runName, 12, 1, 8, 2)}, api.ErrArg},
		{"run with strange parms", []api.Filter{with(runName, 2, 1, 4, 2)}, api.ErrArg},
		{"run with the predictor that does nothing", []api.Filter{with(runName, 1, 1, 8, 1)}, api.ErrArg},
		{"none with parms", []api.Filter{with("Other", 12, 1, 8, 2)}, api.ErrKind},
		{"none ahead of wrong parms", []api.Filter{unknown, wrong}, api.ErrKind},
		{"wrong parms ahead of none", []api.Filter{wrong, unknown}, api.ErrArg},
		{"strange parms ahead of wrong ones", []api.Filter{strange, wrong}, api.ErrKind},
		{"hex with parms ahead of strange ones", []api.Filter{hexParms, strange}, api.ErrArg},
		{"good ones ahead of none", []api.Filter{good, unknown}, api.ErrKind},
	} {
		checkEverywhere(t, c.name, c.l, c.want)
	}
	for _, n := range []string{"", "asciihexdecode", "AHx", "A85", "RL", "LZW", "Fl", "Crypt", "DCTDecode", "CCITTFaxDecode",
		"JBIG2Decode", "JPXDecode", "FlateDecode ", " FlateDecode", "/FlateDecode", "FlateEncode", "Flate", "ASCIIHexDecod", "FlateDecode\x00"} {
		checkEverywhere(t, n, filters(n), api.ErrKind)
		checkEverywhere(t, n, filters(hexName, n, hexName), api.ErrKind)
	}
}

// checkEverywhere asks all three functions for the error of a chain. The bytes and the limit are wrong too, since a chain comes first.
func checkEverywhere(t *testing.T, name string, l []api.Filter, want api.Errno) {
	t.Helper()
	if e := chain.Check(l); e != want {
		t.Errorf("P13.1: Check of %s: %d, want %d", name, e, want)
	}
	if want == api.OK {
		return
	}
	if b, e := chain.Undo(l, []byte("?"), -1); b != nil || e != want {
		t.Errorf("P13.2: Undo of %s: %x, %d, want %d", name, b, e, want)
	}
	if b, e := chain.Do(l, make([]byte, api.MaxBytes+1)); b != nil || e != want {
		t.Errorf("P13.3: Do of %s: %d bytes, %d, want %d", name, len(b), e, want)
	}
}

// Each single part of the parameters makes them more than the zero value.
func TestCheckAsksForEachPart(t *testing.T) {
	for i, p := range []api.Parms{{Predictor: 1}, {Colors: 1}, {Bits: 1}, {Columns: 1}, {Columns: -1}} {
		for _, n := range names() {
			if e := chain.Check([]api.Filter{{Name: n, Parms: p}}); e != api.ErrArg {
				t.Errorf("P13.1: %s with part %d: %d", n, i, e)
			}
		}
	}
}

func TestUndo(t *testing.T) {
	rows := with(lzwName, 12, 1, 8, 2)
	packed, _ := lzw.Put([]byte{2, 1, 2, 1, 5, 1})
	for _, c := range []struct {
		name string
		l    []api.Filter
		in   string
		most int
		want string
		e    api.Errno
	}{
		{"the example", filters(hexName, runName), "FE 61 80>", 3, "aaa", api.OK},
		{"the example, too long", filters(hexName, runName), "FE 61 80>", 2, "", api.ErrLong},
		{"no filters", nil, "abc", 3, "abc", api.OK},
		{"no filters, no bytes", nil, "", 0, "", api.OK},
		{"no filters, too long", nil, "abc", 2, "", api.ErrLong},
		{"hex", filters(hexName), "4 1F>", 2, "\x41\xf0", api.OK},
		{"hex, too long", filters(hexName), "4 1F>", 1, "", api.ErrLong},
		{"hex without an end", filters(hexName), "41", 1, "", api.ErrForm},
		{"base 85", filters(base85), "z@/~>", 5, "\x00\x00\x00\x00a", api.OK},
		{"base 85 without an end", filters(base85), "z@/~", 5, "", api.ErrForm},
		{"run", filters(runName), "\xfe\x61\x00\x62\x80", 4, "aaab", api.OK},
		{"run without an end", filters(runName), "\xfe\x61\x00\x62", 4, "", api.ErrMore},
		{"LZW", filters(lzwName), "\x80\x0b\x60\x50\x22\x0c\x0c\x85\x01", 10, "-----A---B", api.OK},
		{"LZW, too long", filters(lzwName), "\x80\x0b\x60\x50\x22\x0c\x0c\x85\x01", 9, "", api.ErrLong},
		{"LZW that is none", filters(lzwName), "\x81\x80", 9, "", api.ErrForm},
		{"flate", filters(flateName), "\x78\x01\x4b\x4c\x4a\x06\x00\x02\x4d\x01\x27", 3, "abc", api.OK},
		{"flate with another sum", filters(flateName), "\x78\x01\x4b\x4c\x4a\x06\x00\x02\x4d\x01\x28", 3, "", api.ErrSum},
		{"rows", []api.Filter{rows}, string(packed), 4, "\x01\x02\x05\x06", api.OK},
		// The limit of the filter does not hold ahead of its predictor.
		{"rows, too long", []api.Filter{rows}, string(packed), 3, "", api.ErrLong},
		{"rows of another length, too long", []api.Filter{with(lzwName, 12, 1, 8, 3)}, string(packed), 0, "", api.ErrForm},
		{"the predictor that does nothing", []api.Filter{with(lzwName, 1, 1, 8, 2)}, string(packed), 6, "\x02\x01\x02\x01\x05\x01", api.OK},
		{"the predictor that does nothing, too long", []api.Filter{with(lzwName, 1, 1, 8, 2)}, string(packed), 5, "", api.ErrLong},
		// Nor does it hold for the filters ahead of the last one, nor for the bytes themselves.
		{"longer in between", filters(hexName, runName), "00 61 80 FF FF FF FF>", 1, "a", api.OK},
		{"longer at the beginning", filters(runName), "\x00a\x80ffffffffffff", 1, "a", api.OK},
		// With its own limit the last filter is too long ahead of what else is wrong.
		{"too long ahead of a missing end", filters(runName), "\x00a\x05b", 0, "", api.ErrLong},
		{"too long ahead of a missing end, last of two", filters(hexName, runName), "00 61 05 62>", 0, "", api.ErrLong},
		{"a missing end of the first of two", filters(runName, hexName), "\x00a\x05b", 0, "", api.ErrMore},
		{"a missing end ahead of a predictor", []api.Filter{with(lzwName, 1, 1, 8, 1)}, "\x80\x0b\x60", 0, "", api.ErrMore},
		{"the first error", filters(hexName, base85), "7A 7E>", 0, "", api.ErrForm},
		{"an error of the first one", filters(runName, hexName), "\x05a", 0, "", api.ErrMore},
		{"an error of the second one", filters(hexName, runName), "05 61>", 0, "", api.ErrMore},
		{"most below 0", filters(hexName), "?", -1, "", api.ErrArg},
		{"most below 0, no filters", nil, "", -1, "", api.ErrArg},
		{"the least most", filters(hexName), "?", math.MinInt, "", api.ErrArg},
		{"most above its bounds", filters(hexName), "?", api.MaxBytes + 1, "", api.ErrArg},
		{"most above its bounds, no filters", nil, "", math.MaxInt, "", api.ErrArg},
		{"most at its bounds", filters(hexName), "41>", api.MaxBytes, "A", api.OK},
		{"nothing at most", filters(hexName), ">", 0, "", api.OK},
		{"nothing at most, something there", filters(hexName), "4>", 0, "", api.ErrLong},
	} {
		b, e := chain.Undo(c.l, []byte(c.in), c.most)
		if string(b) != c.want || e != c.e {
			t.Errorf("P13.2: %s: %x, %d, want %x, %d", c.name, b, e, c.want, c.e)
		}
	}
}

func TestDo(t *testing.T) {
	packed, _ := lzw.Put([]byte{0, 1, 2, 0, 5, 6})
	plain, _ := lzw.Put([]byte{1, 2, 5, 6})
	tiff, _ := lzw.Put([]byte{1, 1, 5, 1})
	for _, c := range []struct {
		name string
		l    []api.Filter
		in   string
		want string
		e    api.Errno
	}{
		{"no filters", nil, "abc", "abc", api.OK},
		{"hex", filters(hexName), "\xab\x0c", "AB0C>", api.OK},
		{"base 85", filters(base85), "\x00\x00\x00\x00a", "z@/~>", api.OK},
		{"run", filters(runName), "aaab", "\xfe\x61\x00\x62\x80", api.OK},
		{"LZW", filters(lzwName), "-----A---B", "\x80\x0b\x60\x50\x22\x0c\x0c\x85\x01", api.OK},
		{"flate", filters(flateName), "abc", "\x78\x01\x4b\x4c\x4a\x06\x00\x02\x4d\x01\x27", api.OK},
		{"the last one first", filters(hexName, runName), "aaa", "FE6180>", api.OK},
		{"the other way round", filters(runName, hexName), "aa", "\x046161>\x80", api.OK},
		{"tag 0", []api.Filter{with(lzwName, 12, 1, 8, 2)}, "\x01\x02\x05\x06", string(packed), api.OK},
		{"rows without tags", []api.Filter{with(lzwName, 2, 1, 8, 2)}, "\x01\x02\x05\x06", string(tiff), api.OK},
		{"the predictor that does nothing", []api.Filter{with(lzwName, 1, 1, 8, 2)}, "\x01\x02\x05\x06", string(plain), api.OK},
		{"rows of another length", []api.Filter{with(lzwName, 12, 1, 8, 3)}, "\x01\x02\x05\x06", "", api.ErrForm},
		{"rows of another length, behind a filter", []api.Filter{with(lzwName, 12, 1, 8, 3), {Name: hexName}}, "\x01\x02\x05\x06", string(nineRows(t)), api.OK},
	} {
		b, e := chain.Do(c.l, []byte(c.in))
		if string(b) != c.want || e != c.e {
			t.Errorf("P13.3: %s: %x, %d, want %x, %d", c.name, b, e, c.want, c.e)
		}
	}
}

// nineRows returns the nine characters of four bytes as rows of three, with tag 0.
func nineRows(t *testing.T) []byte {
	b, e := lzw.Put([]byte("\x00010\x00205\x0006>"))
	if e != api.OK {
		t.Fatal(e)
	}
	return b
}

func TestDoIsLimited(t *testing.T) {
	full := make([]byte, api.MaxBytes)
	half := make([]byte, api.MaxBytes/2)
	noise := make([]byte, api.MaxBytes)
	r := rand.New(rand.NewSource(13))
	for i := range noise {
		noise[i] = byte(r.Intn(256))
	}
	for _, c := range []struct {
		name string
		l    []api.Filter
		b    []byte
		want int // its length, or -1 for ErrLong
	}{
		{"no filters", nil, full, api.MaxBytes},
		{"one byte too many", nil, append(full, 0), -1},
		{"one byte too many for a filter", filters(flateName), append(full, 0), -1},
		{"hex of half", filters(hexName), half, -1},
		{"hex of less than half", filters(hexName), half[1:], api.MaxBytes - 1},
		{"hex of all", filters(hexName), full, -1},
		{"base 85 of noise", filters(base85), noise, -1},
		{"base 85 of the most that fits", filters(base85), noise[:838856], 1048572},
		{"base 85 of the next", filters(base85), noise[:838859], 1048576},
		{"base 85 of one more", filters(base85), noise[:838860], -1},
		{"runs of noise", filters(runName), noise, -1},
		{"runs of noise that fit", filters(runName), noise[:1000000], 0},
		{"LZW of noise", filters(lzwName), noise, -1},
		{"flate of noise", filters(flateName), noise, 0},
		{"too long in between", filters(runName, hexName), full, -1},
		{"not too long in between", filters(hexName, runName), full, 0},
		// With their tags the rows are too long.
		{"rows of one byte", []api.Filter{with(flateName, 10, 1, 8, 1)}, full, -1},
		{"rows of one byte, half of them", []api.Filter{with(flateName, 10, 1, 8, 1)}, half, 0},
		{"rows of one byte, half of them and one", []api.Filter{with(flateName, 10, 1, 8, 1)}, full[:len(half)+1], -1},
		{"rows without tags", []api.Filter{with(flateName, 2, 1, 8, 1)}, full, 0},
	} {
		b, e := chain.Do(c.l, c.b)
		switch {
		case c.want < 0 && (b != nil || e != api.ErrLong):
			t.Errorf("P13.3: %s: %d bytes, %d", c.name, len(b), e)
		case c.want > 0 && (len(b) != c.want || e != api.OK):
			t.Errorf("P13.3: %s: %d bytes, %d, want %d", c.name, len(b), e, c.want)
		case c.want == 0 && e != longOrOK(b):
			t.Errorf("P13.3: %s: %d bytes, %d", c.name, len(b), e)
		}
	}
}

// longOrOK returns the error that fits a result without bytes, or one with some.
func longOrOK(b []byte) api.Errno {
	if len(b) == 0 {
		return api.ErrLong
	}
	return api.OK
}

func TestUndoIsLimited(t *testing.T) {
	zeros := strings.Repeat("\x81\x00", 8192) + "\x80" // 1048576 bytes 0
	for _, c := range []struct {
		name string
		l    []api.Filter
		in   string
		most int
		want int // its length, or -1 for ErrLong
	}{
		{"the greatest result", filters(runName), zeros, api.MaxBytes, api.MaxBytes},
		{"one byte less", filters(runName), zeros, api.MaxBytes - 1, -1},
		{"one byte more", filters(runName), "\x00\x00" + zeros, api.MaxBytes, -1},
		{"the greatest bytes in between", filters(runName, hexName), "\x00>" + zeros[2:], 0, 0},
		{"too many in between", filters(runName, hexName), "\x00>" + zeros, 0, -1},
		{"bytes without filters", nil, strings.Repeat("x", api.MaxBytes), api.MaxBytes, api.MaxBytes},
		{"too many without filters", nil, strings.Repeat("x", api.MaxBytes+1), api.MaxBytes, -1},
		{"more bytes at the beginning", filters(hexName), strings.Repeat(" ", api.MaxBytes+1) + ">", 0, 0},
	} {
		b, e := chain.Undo(c.l, []byte(c.in), c.most)
		if c.want < 0 && (b != nil || e != api.ErrLong) || c.want >= 0 && (len(b) != c.want || e != api.OK) {
			t.Errorf("P13.2: %s: %d bytes, %d", c.name, len(b), e)
		}
	}
	rows := with(flateName, 10, 1, 8, 1)
	packed, _ := erasurezlib.Pack(make([]byte, api.MaxBytes))
	if b, e := chain.Undo([]api.Filter{rows}, packed, api.MaxBytes/2); len(b) != api.MaxBytes/2 || e != api.OK {
		t.Errorf("P13.2: rows of the greatest length: %d bytes, %d", len(b), e)
	}
	if b, e := chain.Undo([]api.Filter{rows}, packed, api.MaxBytes/2-1); b != nil || e != api.ErrLong {
		t.Errorf("P13.2: rows that are too long: %d bytes, %d", len(b), e)
	}
	packed, _ = erasurezlib.Pack(make([]byte, 7))
	if b, e := chain.Undo([]api.Filter{rows}, packed, 0); b != nil || e != api.ErrForm {
		t.Errorf("P13.2: an error of the predictor comes first: %d bytes, %d", len(b), e)
	}
}

// encode applies one filter as the chapter says.
func encode(f api.Filter, b []byte) []byte {
	if f.Parms != (api.Parms{}) {
		b, _ = predict.Do(f.Parms, 0, b)
	}
	switch f.Name {
	case hexName:
		return []byte(ascii.Hex(b))
	case base85:
		return []byte(ascii.Put(b))
	case runName:
		b, _ = run.Put(b)
	case lzwName:
		b, _ = lzw.Put(b)
	case flateName:
		b, _ = erasurezlib.Pack(b)
	}
	return b
}

// somewhere returns filters of random kinds. With a row of one byte their predictors take whatever comes.
func somewhere(r *rand.Rand, n int) []api.Filter {
	var l []api.Filter
	for range n {
		f := api.Filter{Name: names()[r.Intn(5)]}
		if (f.Name == lzwName || f.Name == flateName) && r.Intn(2) == 0 {
			f.Parms = api.Parms{Predictor: []int{1, 2, 10, 11, 12, 13, 14, 15}[r.Intn(8)], Colors: 1, Bits: 8, Columns: 1}
		}
		l = append(l, f)
	}
	return l
}

func TestChains(t *testing.T) {
	r := rand.New(rand.NewSource(131))
	for i := range 600 {
		l := somewhere(r, i%9)
		in := make([]byte, r.Intn(40))
		for k := range in {
			in[k] = byte(r.Intn(3)) * byte(r.Intn(256))
		}
		want := in
		for _, f := range slices.Backward(l) {
			want = encode(f, want)
		}
		b, e := chain.Do(l, in)
		if !bytes.Equal(b, want) || e != api.OK {
			t.Fatalf("P13.3: Do by %v: %x, %d, want %x", l, b, e, want)
		}
		if back, e := chain.Undo(l, b, len(in)); !bytes.Equal(back, in) || e != api.OK {
			t.Fatalf("P13.4: Undo by %v: %x, %d, want %x", l, back, e, in)
		}
		part := r.Intn(len(l) + 1)
		first, e := chain.Undo(l[:part], b, api.MaxBytes)
		second, f := chain.Undo(l[part:], first, api.MaxBytes)
		if !bytes.Equal(second, in) || e != api.OK || f != api.OK {
			t.Fatalf("P13.4: %v, part by part: %x, %d, %d", l, second, e, f)
		}
		if len(in) == 0 {
			continue
		}
		if back, e := chain.Undo(l, b, len(in)-1); back != nil || e != api.ErrLong {
			t.Fatalf("P13.2: Undo by %v to less: %x, %d", l, back, e)
		}
	}
}

// The library reads what Do packs, and Undo what the library packs.
func TestLibrary(t *testing.T) {
	text := bytes.Repeat([]byte("a text "), 50)
	b, e := chain.Do(filters(hexName, flateName), text)
	if e != api.OK {
		t.Fatal(e)
	}
	packed, err := hex.DecodeString(strings.TrimSuffix(string(b), ">"))
	if err != nil {
		t.Fatal("P13.3: ", err)
	}
	r, err := zlib.NewReader(bytes.NewReader(packed))
	if err != nil {
		t.Fatal("P13.3: ", err)
	}
	if back, err := io.ReadAll(r); !bytes.Equal(back, text) || err != nil {
		t.Errorf("P13.3: %q, %v", back, err)
	}
	var out bytes.Buffer
	w := zlib.NewWriter(&out)
	w.Write(text)
	w.Close()
	if back, e := chain.Undo(filters(flateName), out.Bytes(), len(text)); !bytes.Equal(back, text) || e != api.OK {
		t.Errorf("P13.2: %q, %d", back, e)
	}
}

func TestArgumentsAreKept(t *testing.T) {
	b := []byte("41>rest")
	l := append(filters(hexName, base85), api.Filter{Name: "spare"})
	out, e := chain.Undo(l[:1], b[:3], 5)
	if string(out) != "A" || e != api.OK {
		t.Errorf("R2: %q, %d", out, e)
	}
	chain.Do(l[:2], b[:3])
	chain.Do([]api.Filter{with(lzwName, 15, 1, 8, 1), with(flateName, 2, 1, 8, 1)}, b[:3])
	for _, same := range []func() ([]byte, api.Errno){
		func() ([]byte, api.Errno) { return chain.Undo(nil, b[:3], 5) },
		func() ([]byte, api.Errno) { return chain.Do(nil, b[:3]) },
	} {
		out, e := same()
		if string(out) != "41>" || e != api.OK {
			t.Errorf("R2: %q, %d", out, e)
		}
		out[0] = '?'
		_ = append(out, '?')
	}
	if string(b) != "41>rest" || !slices.Equal(l, append(filters(hexName, base85), api.Filter{Name: "spare"})) {
		t.Errorf("R2: %q, %v", b, l)
	}
}
