package file_test

import (
	"bytes"
	"math"
	"math/rand"
	"reflect"
	"slices"
	"strconv"
	"strings"
	"testing"

	"erasure/api"
	"erasure/chain"
	"erasure/file"
	"erasure/obj"
)

// dataFile returns a file with objects to which the streams of the tests refer.
func dataFile(t *testing.T) *file.File {
	w := begin().object(1, "/ASCIIHexDecode").object(2, "[/ASCIIHexDecode 3 0 R]").object(3, "/RunLengthDecode").object(4, "null").object(5, "12").object(6, "<</Predictor 5 0 R/Columns 7 0 R/Colors 4 0 R>>")
	w.object(7, "8 0 R").object(8, "2").object(9, "9 0 R").at(10).text("10 0 obj "+over+" ").at(11).text("11 0 obj 1 x ").object(12, "[4 0 R 6 0 R]").object(13, "1").object(14, stream("/Predictor 1", "x")).object(15, "[]")
	return open(t, w.file("<<>>"))
}

// encoded returns bytes with filters applied.
func encoded(t *testing.T, in string, l ...api.Filter) string {
	b, e := chain.Do(l, []byte(in))
	if e != api.OK {
		t.Fatal(e)
	}
	return string(b)
}

func TestData(t *testing.T) {
	f := dataFile(t)
	rows := api.Parms{Predictor: 12, Colors: 1, Bits: 8, Columns: 2}
	lzwRows := encoded(t, "abcd", api.Filter{Name: "LZWDecode", Parms: rows})
	hexRows := encoded(t, "abcd", api.Filter{Name: "ASCIIHexDecode"}, api.Filter{Name: "LZWDecode", Parms: rows})
	rgb := encoded(t, "abcdef", api.Filter{Name: "FlateDecode", Parms: api.Parms{Predictor: 2, Colors: 3, Bits: 8, Columns: 1}})
	bits := encoded(t, "ab", api.Filter{Name: "FlateDecode", Parms: api.Parms{Predictor: 10, Colors: 1, Bits: 4, Columns: 1}})
	plain := encoded(t, "abcd", api.Filter{Name: "LZWDecode"})
	for _, c := range []struct {
		dict, data string
		want       string
		e          api.Errno
	}{
		{"<<>>", "abc", "abc", api.OK}, {"<</Filter null>>", "abc", "abc", api.OK}, {"<</Filter 4 0 R>>", "abc", "abc", api.OK}, {"<</Filter 99 0 R>>", "abc", "abc", api.OK}, {"<</Filter[]>>", "abc", "abc", api.OK}, {"<</Filter 15 0 R>>", "abc", "abc", api.OK},
		{"<</Filter/ASCIIHexDecode>>", "6162>", "ab", api.OK}, {"<</Filter[/ASCIIHexDecode]>>", "6162>", "ab", api.OK}, {"<</Filter 1 0 R>>", "6162>", "ab", api.OK}, {"<</Filter[1 0 R]>>", "6162>", "ab", api.OK},
		{"<</Filter[/ASCIIHexDecode/RunLengthDecode]>>", "FE 61 80>", "aaa", api.OK}, {"<</Filter 2 0 R>>", "FE 61 80>", "aaa", api.OK}, {"<</Filter[3 0 R 1 0 R]>>", "\x0461>,,\x80", "a", api.OK},
		{"<</Filter/ASCII85Decode>>", "z@/~>", "\x00\x00\x00\x00a", api.OK}, {"<</Filter/RunLengthDecode>>", "\xfea\x80", "aaa", api.OK}, {"<</Filter/LZWDecode>>", plain, "abcd", api.OK}, {"<</Filter/FlateDecode>>", encoded(t, "abc", api.Filter{Name: "FlateDecode"}), "abc", api.OK},
		// Parameters.
		{"<</Filter/LZWDecode/DecodeParms<</Predictor 12/Columns 2>>>>", lzwRows, "abcd", api.OK}, {"<</Filter/LZWDecode/DecodeParms 6 0 R>>", lzwRows, "abcd", api.OK}, {"<</Filter[/LZWDecode]/DecodeParms[6 0 R]>>", lzwRows, "abcd", api.OK},
		{"<</Filter[/LZWDecode]/DecodeParms 6 0 R>>", lzwRows, "abcd", api.OK}, {"<</Filter/LZWDecode/DecodeParms[6 0 R]>>", lzwRows, "abcd", api.OK}, {"<</Filter[/ASCIIHexDecode/LZWDecode]/DecodeParms[null 6 0 R]>>", hexRows, "abcd", api.OK},
		{"<</Filter[/ASCIIHexDecode/LZWDecode]/DecodeParms 12 0 R>>", hexRows, "abcd", api.OK}, {"<</Filter/FlateDecode/DecodeParms<</Predictor 2/Colors 3>>>>", rgb, "abcdef", api.OK}, {"<</Filter/FlateDecode/DecodeParms<</Predictor 10/BitsPerComponent 4>>>>", bits, "ab", api.OK},
		{"<</Filter/FlateDecode/DecodeParms<</Predictor 2.0/Colors 3/BitsPerComponent 8/Columns 1/EarlyChange 1>>>>", rgb, "abcdef", api.OK}, {"<</Filter/LZWDecode/DecodeParms<<>>>>", plain, "abcd", api.OK}, {"<</Filter/LZWDecode/DecodeParms<</Predictor 1>>>>", plain, "abcd", api.OK},
		{"<</Filter/LZWDecode/DecodeParms<</EarlyChange null/Predictor null/Columns null/Colors null/BitsPerComponent null>>>>", plain, "abcd", api.OK}, {"<</Filter/LZWDecode/DecodeParms<</EarlyChange 13 0 R>>>>", plain, "abcd", api.OK}, {"<</Filter/LZWDecode/DecodeParms null>>", plain, "abcd", api.OK},
		{"<</Filter/LZWDecode/DecodeParms 4 0 R>>", plain, "abcd", api.OK}, {"<</Filter/LZWDecode/DecodeParms[null]>>", plain, "abcd", api.OK}, {"<</Filter/LZWDecode/DecodeParms[4 0 R]>>", plain, "abcd", api.OK}, {"<</Filter/LZWDecode/DecodeParms[99 0 R]>>", plain, "abcd", api.OK},
		// Without a predictor what it would use has no effect.
		{"<</Filter/ASCIIHexDecode/DecodeParms<</Predictor 1/Colors 77/BitsPerComponent 77/Columns 0>>>>", "61>", "a", api.OK}, {"<</Filter/ASCIIHexDecode/DecodeParms<</Columns 99>>>>", "61>", "a", api.OK}, {"<</Filter/ASCIIHexDecode/DecodeParms 14 0 R>>", "61>", "a", api.OK},
		{"<</DecodeParms null>>", "abc", "abc", api.OK}, {"<</DecodeParms[]>>", "abc", "abc", api.OK}, {"<</Filter[]/DecodeParms[]>>", "abc", "abc", api.OK},
		// Zeros throughout are no parameters.
		{"<</Filter/ASCIIHexDecode/DecodeParms<</Predictor 0/Colors 0/BitsPerComponent 0/Columns 0>>>>", "61>", "a", api.OK},

		// What Filter may not be.
		{"<</Filter 1>>", "abc", "", api.ErrForm}, {"<</Filter(ASCIIHexDecode)>>", "abc", "", api.ErrForm}, {"<</Filter<</A 1>>>>", "abc", "", api.ErrForm}, {"<</Filter true>>", "abc", "", api.ErrForm}, {"<</Filter[null]>>", "abc", "", api.ErrForm}, {"<</Filter[4 0 R]>>", "abc", "", api.ErrForm},
		{"<</Filter[[/ASCIIHexDecode]]>>", "abc", "", api.ErrForm}, {"<</Filter[/ASCIIHexDecode 1]>>", "abc", "", api.ErrForm}, {"<</Filter 14 0 R>>", "abc", "", api.ErrForm}, {"<</Filter[2 0 R]>>", "abc", "", api.ErrForm}, {"<</Filter 9 0 R>>", "abc", "", api.ErrDeep}, {"<</Filter 10 0 R>>", "abc", "", api.ErrOver},
		{"<</Filter[10 0 R]>>", "abc", "", api.ErrOver}, {"<</Filter[1 10 0 R]>>", "abc", "", api.ErrOver}, {"<</Filter[9 0 R 10 0 R]>>", "abc", "", api.ErrDeep}, {"<</Filter[11 0 R 10 0 R]>>", "abc", "", api.ErrForm}, {"<</Filter 1/DecodeParms 10 0 R>>", "abc", "", api.ErrForm},
		{"<</Filter/Other>>", "abc", "", api.ErrKind}, {"<</Filter/Other/DecodeParms 10 0 R>>", "abc", "", api.ErrOver}, {"<</Filter/Other/DecodeParms 1>>", "abc", "", api.ErrForm},
		// What DecodeParms may not be.
		{"<</Filter/LZWDecode/DecodeParms 10 0 R>>", plain, "", api.ErrOver}, {"<</Filter/LZWDecode/DecodeParms[10 0 R 9 0 R]>>", plain, "", api.ErrOver}, {"<</Filter/LZWDecode/DecodeParms[1 9 0 R]>>", plain, "", api.ErrDeep}, {"<</Filter/LZWDecode/DecodeParms[]>>", plain, "", api.ErrForm},
		{"<</Filter/LZWDecode/DecodeParms[null null]>>", plain, "", api.ErrForm}, {"<</Filter[/ASCIIHexDecode/LZWDecode]/DecodeParms 6 0 R>>", hexRows, "", api.ErrForm}, {"<</Filter[/ASCIIHexDecode/LZWDecode]/DecodeParms[6 0 R]>>", hexRows, "", api.ErrForm}, {"<</DecodeParms<<>>>>", "abc", "", api.ErrForm},
		{"<</DecodeParms[null]>>", "abc", "", api.ErrForm}, {"<</Filter[]/DecodeParms<<>>>>", "abc", "", api.ErrForm}, {"<</DecodeParms 1>>", "abc", "", api.ErrForm}, {"<</Filter/LZWDecode/DecodeParms 1>>", plain, "", api.ErrForm}, {"<</Filter/LZWDecode/DecodeParms[/x]>>", plain, "", api.ErrForm},
		{"<</Filter/LZWDecode/DecodeParms[[<<>>]]>>", plain, "", api.ErrForm}, {"<</Filter/LZWDecode/DecodeParms true>>", plain, "", api.ErrForm}, {"<</Filter[/LZWDecode/LZWDecode]/DecodeParms[<</Predictor/x>> 1]>>", plain, "", api.ErrForm}, {"<</Filter[/LZWDecode/LZWDecode]/DecodeParms[<</EarlyChange 0>> 1]>>", plain, "", api.ErrKind},
		{"<</Filter[/LZWDecode/LZWDecode]/DecodeParms[1<</EarlyChange 0>>]>>", plain, "", api.ErrForm}, {"<</Filter[/LZWDecode/LZWDecode]/DecodeParms[null<</EarlyChange 0>>]>>", plain, "", api.ErrKind},
		// What the keys may not be, in their order.
		{"<</Filter/LZWDecode/DecodeParms<</EarlyChange 0>>>>", plain, "", api.ErrKind}, {"<</Filter/LZWDecode/DecodeParms<</EarlyChange 2>>>>", plain, "", api.ErrKind}, {"<</Filter/LZWDecode/DecodeParms<</EarlyChange -1>>>>", plain, "", api.ErrKind}, {"<</Filter/LZWDecode/DecodeParms<</EarlyChange/x>>>>", plain, "", api.ErrKind},
		{"<</Filter/LZWDecode/DecodeParms<</EarlyChange 1.5>>>>", plain, "", api.ErrKind}, {"<</Filter/LZWDecode/DecodeParms<</EarlyChange 0.1>>>>", plain, "", api.ErrKind}, {"<</Filter/LZWDecode/DecodeParms<</EarlyChange true>>>>", plain, "", api.ErrKind}, {"<</Filter/LZWDecode/DecodeParms<</EarlyChange 10 0 R>>>>", plain, "", api.ErrOver},
		{"<</Filter/LZWDecode/DecodeParms<</EarlyChange 8 0 R>>>>", plain, "", api.ErrKind}, {"<</Filter/FlateDecode/DecodeParms<</EarlyChange 0>>>>", "", "", api.ErrKind}, {"<</Filter/LZWDecode/DecodeParms<</EarlyChange 0/Columns -1>>>>", plain, "", api.ErrForm}, {"<</Filter/LZWDecode/DecodeParms<</EarlyChange 0/Predictor 77>>>>", plain, "", api.ErrKind},
		{"<</Filter/LZWDecode/DecodeParms<</Predictor 10 0 R/Colors/x>>>>", plain, "", api.ErrOver}, {"<</Filter/LZWDecode/DecodeParms<</Predictor/x/Colors 10 0 R>>>>", plain, "", api.ErrForm}, {"<</Filter/LZWDecode/DecodeParms<</Colors/x/BitsPerComponent 10 0 R>>>>", plain, "", api.ErrForm},
		{"<</Filter/LZWDecode/DecodeParms<</Colors 10 0 R/BitsPerComponent/x>>>>", plain, "", api.ErrOver}, {"<</Filter/LZWDecode/DecodeParms<</BitsPerComponent/x/Columns 10 0 R>>>>", plain, "", api.ErrForm}, {"<</Filter/LZWDecode/DecodeParms<</BitsPerComponent 10 0 R/Columns/x>>>>", plain, "", api.ErrOver},
		{"<</Filter/LZWDecode/DecodeParms<</Columns/x/EarlyChange 10 0 R>>>>", plain, "", api.ErrForm}, {"<</Filter/LZWDecode/DecodeParms<</Columns 10 0 R/EarlyChange 0>>>>", plain, "", api.ErrOver}, {"<</Filter/LZWDecode/DecodeParms<</Columns 10 0 R/Colors 9 0 R>>>>", plain, "", api.ErrDeep},
		{"<</Filter/LZWDecode/DecodeParms<</Predictor -1>>>>", plain, "", api.ErrForm}, {"<</Filter/LZWDecode/DecodeParms<</Predictor 1.5>>>>", plain, "", api.ErrForm}, {"<</Filter/LZWDecode/DecodeParms<</Predictor[1]>>>>", plain, "", api.ErrForm}, {"<</Filter/LZWDecode/DecodeParms<</Predictor true>>>>", plain, "", api.ErrForm},
		{"<</Filter/LZWDecode/DecodeParms<</Colors -1>>>>", plain, "", api.ErrForm}, {"<</Filter/LZWDecode/DecodeParms<</BitsPerComponent(8)>>>>", plain, "", api.ErrForm}, {"<</Filter/LZWDecode/DecodeParms<</Columns 0.5>>>>", plain, "", api.ErrForm}, {"<</Filter/LZWDecode/DecodeParms<</Columns 14 0 R>>>>", plain, "", api.ErrForm},
		// Errors of the filters.
		{"<</Filter/LZWDecode/DecodeParms<</Predictor 0>>>>", plain, "", api.ErrArg}, {"<</Filter/LZWDecode/DecodeParms<</Predictor 3>>>>", plain, "", api.ErrArg}, {"<</Filter/LZWDecode/DecodeParms<</Predictor 12/Colors 33>>>>", plain, "", api.ErrArg}, {"<</Filter/LZWDecode/DecodeParms<</Predictor 12/BitsPerComponent 3>>>>", plain, "", api.ErrArg},
		{"<</Filter/LZWDecode/DecodeParms<</Predictor 12/Columns 0>>>>", plain, "", api.ErrArg}, {"<</Filter/LZWDecode/DecodeParms<</Predictor 2/BitsPerComponent 4>>>>", plain, "", api.ErrKind}, {"<</Filter/ASCIIHexDecode/DecodeParms 6 0 R>>", "61>", "", api.ErrArg}, {"<</Filter/ASCIIHexDecode>>", "6162", "", api.ErrForm},
		{"<</Filter/ASCIIHexDecode>>", "61626364656667>", "", api.ErrLong}, {"<<>>", "abcdefg", "", api.ErrLong}, {"<</Filter/RunLengthDecode>>", "", "", api.ErrMore}, {"<</Filter[" + strings.Repeat("/ASCIIHexDecode", 9) + "]>>", "61>", "", api.ErrLong}, {"<</Filter/FlateDecode>>", "\x78\x01\x4b\x4c\x4a\x06\x00\x02\x4d\x01\x28", "", api.ErrSum},
	} {
		x := api.Item{Obj: parse(t, c.dict), Stream: true, Data: []byte(c.data)}
		b, e := f.Data(x, 6)
		if string(b) != c.want || e != c.e || e != api.OK && b != nil {
			t.Errorf("P17.4: %s: %q, %d, want %q, %d", c.dict, b, e, c.want, c.e)
		}
		if most, e := f.Data(x, -1); most != nil || e != api.ErrArg {
			t.Errorf("P17.4: %s, most -1: %q, %d", c.dict, most, e)
		}
	}
}

func TestDataRefuses(t *testing.T) {
	f := dataFile(t)
	good := api.Item{Obj: parse(t, "<<>>"), Stream: true, Data: []byte("abc")}
	for _, c := range []struct {
		name string
		x    api.Item
		most int
		want api.Errno
	}{
		{"exact", good, 3, api.OK}, {"the greatest most", good, api.MaxBytes, api.OK}, {"most less than that", good, 2, api.ErrLong}, {"nothing at most", good, 0, api.ErrLong}, {"nothing at most, nothing there", api.Item{Obj: good.Obj, Stream: true}, 0, api.OK},
		{"most -1", good, -1, api.ErrArg}, {"most too great", good, api.MaxBytes + 1, api.ErrArg}, {"the greatest number", good, math.MaxInt, api.ErrArg}, {"the least number", good, math.MinInt, api.ErrArg},
		{"no stream", api.Item{Obj: good.Obj, Data: good.Data}, 3, api.ErrArg}, {"nothing", api.Item{}, 3, api.ErrArg}, {"no stream with something wrong", api.Item{Obj: parse(t, "<</Filter 10 0 R>>")}, 3, api.ErrArg},
		{"most -1 and something wrong", api.Item{Obj: parse(t, "<</Filter 10 0 R>>"), Stream: true}, -1, api.ErrArg}, {"something wrong", api.Item{Obj: parse(t, "<</Filter 10 0 R>>"), Stream: true}, 0, api.ErrOver},
	} {
		b, e := f.Data(c.x, c.most)
		if e != c.want || string(b) != map[bool]string{true: string(c.x.Data)}[e == api.OK] {
			t.Errorf("P17.4: %s: %q, %d, want %d", c.name, b, e, c.want)
		}
	}
}

// The streams of a file are decoded as they were encoded.
func TestStreamsOfAFile(t *testing.T) {
	r := rand.New(rand.NewSource(17))
	names := []string{"ASCIIHexDecode", "ASCII85Decode", "RunLengthDecode", "LZWDecode", "FlateDecode"}
	w := begin()
	var want [][]byte
	for id := range 60 {
		in := make([]byte, r.Intn(30))
		r.Read(in)
		var l []api.Filter
		list, parms := "", ""
		for range id % 4 {
			n := r.Intn(5)
			x := api.Filter{Name: names[n]}
			list += "/" + names[n]
			if n > 2 {
				x.Parms = api.Parms{Predictor: 12, Colors: 1, Bits: 8, Columns: 1}
				parms += "<</Predictor 12>>"
			} else {
				parms += " null"
			}
			l = append(l, x)
		}
		w.object(id, stream("/Filter["+list+"]/DecodeParms["+parms+"]", encoded(t, string(in), l...)))
		want = append(want, in)
	}
	f := open(t, w.file("<<>>"))
	for id, in := range want {
		x, e := f.Get(id)
		b, g := f.Data(x, len(in))
		if !bytes.Equal(b, in) || e != api.OK || g != api.OK {
			t.Errorf("P17.4: %v: %x, %d, %d, want %x", x.Obj, b, e, g, in)
		}
	}
}

// Bytes between the objects, and objects that are in no table, make no difference.
func TestBetweenObjects(t *testing.T) {
	r := rand.New(rand.NewSource(171))
	objects := []string{"[1 0 R(x)]", stream("/Filter/ASCIIHexDecode", "6162>"), "<</A<</B null>>>>", "-1.5", "3 0 R"}
	write := func(between func() string) *file.File {
		w := begin()
		for id, o := range objects {
			w.text(between()).object(id, o)
		}
		return open(t, w.text(between()).file("<</Size 5>>"))
	}
	plain := write(func() string { return "" })
	junk := []string{" ", "(", ")", "endstream endobj\n", "startxref 1\n", "xref 0 1 ", "9 0 obj 7 endobj\n", "%", "\n", "1 0 obj /other endobj\n", "<<", "stream\n"}
	for range 100 {
		other := write(func() string {
			s := ""
			for range r.Intn(4) {
				s += junk[r.Intn(len(junk))]
			}
			return s + "\n"
		})
		if a, b := plain.Ids(), other.Ids(); !slices.Equal(a, b) {
			t.Fatalf("P17.5: %v and %v", a, b)
		}
		for id := range objects {
			a, e := plain.Get(id)
			b, g := other.Get(id)
			if !reflect.DeepEqual(a, b) || e != g || obj.Check(a.Obj) != api.OK {
				t.Fatalf("P17.5: object %d: %v, %d and %v, %d", id, a, e, b, g)
			}
		}
	}
}

// A file that is damaged in some places gives valid objects or errors.
func TestDamage(t *testing.T) {
	r := rand.New(rand.NewSource(172))
	w := begin().object(1, "<</A[1 0 R(x)]/B/C>>").object(2, stream("/Filter[/ASCIIHexDecode/FlateDecode]/DecodeParms[null<</Columns 2>>]", "789C>"))
	at := w.table("<</Root 1 0 R>>")
	w.object(3, "2 0 R").object(4, "<</Length 5 0 R/Filter/RunLengthDecode>>stream\n\x00a\x80\nendstream").object(5, "3")
	whole := w.file("<</Prev " + strconv.Itoa(at) + ">>")
	opened := 0
	for range 6000 {
		b := slices.Clone(whole)
		for range 1 + r.Intn(3) {
			b[r.Intn(len(b))] = "0123456789 <>[]()/%R\nax\x00\xff"[r.Intn(25)]
		}
		f, e := file.Open(b)
		if (f == nil) == (e == api.OK) {
			t.Fatalf("P17.1: %q: %d", b, e)
		}
		if e != api.OK {
			continue
		}
		opened++
		if obj.Check(f.Trailer()) != api.OK || !slices.IsSorted(f.Ids()) {
			t.Fatalf("P17.5: %q: %v, %v", b, f.Trailer(), f.Ids())
		}
		for _, id := range append(f.Ids(), 1, 2, 3, 4, 5) {
			x, e := f.Get(id)
			if obj.Check(x.Obj) != api.OK || e != api.OK && !isEmpty(x) {
				t.Fatalf("P17.5: %q: object %d: %v, %d", b, id, x, e)
			}
			o, _ := f.Resolve(api.Obj{Kind: api.ObjRef, Ref: id})
			if d, e := f.Data(x, 9); obj.Check(o) != api.OK || e != api.OK && d != nil {
				t.Fatalf("P17.5: %q: object %d: %v, %v, %d", b, id, o, d, e)
			}
		}
	}
	if opened < 1000 {
		t.Errorf("only %d are opened", opened)
	}
}

// What is handed in may change afterwards, and so may what was answered.
func TestArgumentsAreKept(t *testing.T) {
	b := begin().object(1, "[(x)]").object(2, stream("", "abc")).file("<</A[(y)]/B 1>>")
	kept := slices.Clone(b)
	f := open(t, append(b, "spare"...)[:len(b)])
	if !bytes.Equal(b, kept) {
		t.Errorf("R2: %q", b)
	}
	clear(b)
	for range 2 {
		o := f.Trailer()
		if s := printed(o); s != "<< /A [ <79> ] /B 1 >>" {
			t.Errorf("R2: %s", s)
		}
		o.Keys[0], o.Parts[0].Parts[0] = "Z", api.Obj{}
		o.Parts[1] = api.Obj{}
		l := f.Ids()
		if !slices.Equal(l, []int{1, 2}) {
			t.Errorf("R2: %v", l)
		}
		clear(l)
		checkGet(t, f, 1, "[ <78> ]")
		x, _ := f.Get(1)
		x.Obj.Parts[0] = api.Obj{}
		x, _ = f.Get(2)
		d, e := f.Data(x, 3)
		if string(x.Data) != "abc" || string(d) != "abc" || e != api.OK {
			t.Errorf("R2: %q, %q, %d", x.Data, d, e)
		}
		d[0] = '?'
		if string(x.Data) != "abc" {
			t.Errorf("R2: %q", x.Data)
		}
		x.Data[0] = '?'
		_ = append(x.Data, "???????"...)
	}
	if x, e := f.Get(2); string(x.Data) != "abc" || e != api.OK {
		t.Errorf("R2: %v, %d", x, e)
	}
}
