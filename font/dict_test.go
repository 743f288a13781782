package font_test

import (
	"math"
	"math/rand"
	"reflect"
	"slices"
	"strconv"
	"strings"
	"testing"

	"erasure/api"
	"erasure/cmap"
	"erasure/font"
	"erasure/obj"
)

func parse(t *testing.T, s string) api.Obj {
	t.Helper()
	o, _, e := obj.Parse([]byte(s), 0)
	if e != api.OK {
		t.Fatalf("%q: %d", s, e)
	}
	return o
}

func checkRead(t *testing.T, name string, o api.Obj, means []api.Glyph, want api.Font, e api.Errno) {
	t.Helper()
	f, g := font.Read(o, means)
	if f.Wide != want.Wide || f.Other != want.Other || !slices.Equal(f.Glyphs, want.Glyphs) || g != e {
		t.Errorf("P19.3: %s with %v: %v, %d, want %v, %d", name, means, f, g, want, e)
	}
}

func TestReadSimple(t *testing.T) {
	for _, c := range []struct {
		in   string
		want api.Font
		e    api.Errno
	}{
		{"/FirstChar 65/Widths[500 0 10000]", simple(glyph(65, 500, ""), glyph(66, 0, ""), glyph(67, 10000, "")), api.OK}, {"/FirstChar 0/Widths[]", simple(), api.OK}, {"/FirstChar 255/Widths[]", simple(), api.OK}, {"/FirstChar 255/Widths[1]", simple(glyph(255, 1, "")), api.OK},
		{"/FirstChar 254/Widths[1 2]", simple(glyph(254, 1, ""), glyph(255, 2, "")), api.OK}, {"/FirstChar 7.0/Widths[1.0]/LastChar 99/DW 5/W[1]", simple(glyph(7, 1, "")), api.OK},
		{"/Widths[]", api.Font{}, api.ErrForm}, {"/FirstChar 0", api.Font{}, api.ErrForm}, {"", api.Font{}, api.ErrForm}, {"/FirstChar -1/Widths[]", api.Font{}, api.ErrForm}, {"/FirstChar 256/Widths[]", api.Font{}, api.ErrForm}, {"/FirstChar 0.5/Widths[]", api.Font{}, api.ErrForm}, {"/FirstChar/x/Widths[]", api.Font{}, api.ErrForm},
		{"/FirstChar null/Widths[]", api.Font{}, api.ErrForm}, {"/FirstChar[0]/Widths[]", api.Font{}, api.ErrForm}, {"/FirstChar 1 0 R/Widths[]", api.Font{}, api.ErrForm}, {"/FirstChar 0/Widths 1 0 R", api.Font{}, api.ErrForm}, {"/FirstChar 0/Widths null", api.Font{}, api.ErrForm}, {"/FirstChar 0/Widths 500", api.Font{}, api.ErrForm},
		{"/FirstChar 0/Widths<</A 1>>", api.Font{}, api.ErrForm}, {"/FirstChar 255/Widths[1 2]", api.Font{}, api.ErrForm}, {"/FirstChar 0/Widths[" + strings.Repeat("1 ", 257) + "]", api.Font{}, api.ErrForm}, {"/FirstChar 0/Widths[-1]", api.Font{}, api.ErrForm}, {"/FirstChar 0/Widths[10001]", api.Font{}, api.ErrForm},
		{"/FirstChar 0/Widths[1 0.5]", api.Font{}, api.ErrForm}, {"/FirstChar 0/Widths[null]", api.Font{}, api.ErrForm}, {"/FirstChar 0/Widths[1 0 R]", api.Font{}, api.ErrForm}, {"/FirstChar 0/Widths[1[2]]", api.Font{}, api.ErrForm}, {"/FirstChar 0/Widths[1(2)]", api.Font{}, api.ErrForm}, {"/FirstChar 999999999999999999/Widths[]", api.Font{}, api.ErrForm},
	} {
		for _, subtype := range []string{"Type1", "TrueType"} {
			checkRead(t, subtype+" "+c.in, parse(t, "<</Subtype/"+subtype+c.in+">>"), nil, c.want, c.e)
		}
	}
	f, e := font.Read(parse(t, "<</Subtype/Type1/FirstChar 0/Widths["+strings.Repeat("1 ", 256)+"]>>"), nil)
	if len(f.Glyphs) != 256 || f.Glyphs[255] != glyph(255, 1, "") || e != api.OK {
		t.Errorf("P19.3: all codes: %d, %d", len(f.Glyphs), e)
	}
}

func TestReadWide(t *testing.T) {
	for _, c := range []struct {
		in   string
		want api.Font
		e    api.Errno
	}{
		{"", wide(1000), api.OK}, {"/DW 0", wide(0), api.OK}, {"/DW 10000/W[]", wide(10000), api.OK}, {"/DW 5.0", wide(5), api.OK}, {"/W[1[]]", wide(1000), api.OK}, {"/W[65535[]]", wide(1000), api.OK},
		{"/W[65[500 600]]", wide(1000, glyph(65, 500, ""), glyph(66, 600, "")), api.OK}, {"/W[65 67 500]", wide(1000, glyph(65, 500, ""), glyph(66, 500, ""), glyph(67, 500, "")), api.OK}, {"/W[65 65 0]/DW 3", wide(3, glyph(65, 0, "")), api.OK},
		{"/W[9[9]7 8 78 0[0 10000]65535[5]2[2]]", wide(1000, glyph(0, 0, ""), glyph(1, 10000, ""), glyph(2, 2, ""), glyph(7, 78, ""), glyph(8, 78, ""), glyph(9, 9, ""), glyph(65535, 5, "")), api.OK}, {"/W[65534 65535 1]", wide(1000, glyph(65534, 1, ""), glyph(65535, 1, "")), api.OK}, {"/W[65534[1 2]]", wide(1000, glyph(65534, 1, ""), glyph(65535, 2, "")), api.OK},
		{"/W[1 1 1 2[2]3 3 3]/FirstChar/x/Widths/x", wide(1000, glyph(1, 1, ""), glyph(2, 2, ""), glyph(3, 3, "")), api.OK},
		{"/DW -1", api.Font{}, api.ErrForm}, {"/DW 10001", api.Font{}, api.ErrForm}, {"/DW 0.5", api.Font{}, api.ErrForm}, {"/DW/x", api.Font{}, api.ErrForm}, {"/DW null", api.Font{}, api.ErrForm}, {"/DW[1]", api.Font{}, api.ErrForm}, {"/DW 1 0 R", api.Font{}, api.ErrForm},
		{"/W 1", api.Font{}, api.ErrForm}, {"/W null", api.Font{}, api.ErrForm}, {"/W 1 0 R", api.Font{}, api.ErrForm}, {"/W<</A[]>>", api.Font{}, api.ErrForm}, {"/W/x", api.Font{}, api.ErrForm},
		{"/W[1]", api.Font{}, api.ErrForm}, {"/W[1 2]", api.Font{}, api.ErrForm}, {"/W[[1]]", api.Font{}, api.ErrForm}, {"/W[/x[1]]", api.Font{}, api.ErrForm}, {"/W[1/x 3]", api.Font{}, api.ErrForm}, {"/W[1 2/x]", api.Font{}, api.ErrForm}, {"/W[1 2[3]]", api.Font{}, api.ErrForm}, {"/W[1[2]3]", api.Font{}, api.ErrForm},
		{"/W[1[2]3 4]", api.Font{}, api.ErrForm}, {"/W[2 1 5]", api.Font{}, api.ErrForm}, {"/W[-1[5]]", api.Font{}, api.ErrForm}, {"/W[65536[5]]", api.Font{}, api.ErrForm}, {"/W[0.5[5]]", api.Font{}, api.ErrForm}, {"/W[1 65536 5]", api.Font{}, api.ErrForm}, {"/W[1 2.5 5]", api.Font{}, api.ErrForm}, {"/W[-1 2 5]", api.Font{}, api.ErrForm},
		{"/W[65536[]]", api.Font{}, api.ErrForm}, {"/W[65535[1 2]]", api.Font{}, api.ErrForm}, {"/W[1[-1]]", api.Font{}, api.ErrForm}, {"/W[1[1 10001]]", api.Font{}, api.ErrForm}, {"/W[1[1 null]]", api.Font{}, api.ErrForm}, {"/W[1[[1]]]", api.Font{}, api.ErrForm}, {"/W[1[0.5]]", api.Font{}, api.ErrForm}, {"/W[1 2 -1]", api.Font{}, api.ErrForm},
		{"/W[1 2 10001]", api.Font{}, api.ErrForm}, {"/W[1 2 0.5]", api.Font{}, api.ErrForm}, {"/W[null[1]]", api.Font{}, api.ErrForm}, {"/W[1 null 1]", api.Font{}, api.ErrForm}, {"/W[1(x)]", api.Font{}, api.ErrForm}, {"/W[1 2 3 0 R]", api.Font{}, api.ErrForm},
		// A code twice.
		{"/W[1[1]1[1]]", api.Font{}, api.ErrForm}, {"/W[1 3 1 3 4 1]", api.Font{}, api.ErrForm}, {"/W[5[1]1 9 1]", api.Font{}, api.ErrForm}, {"/W[1 9 1 0[1 1]]", api.Font{}, api.ErrForm}, {"/W[0 65535 1 7[1]]", api.Font{}, api.ErrForm},
		// Too many glyphs come behind all that.
		{"/W[0 4096 1]", api.Font{}, api.ErrLong}, {"/W[0 65535 1]", api.Font{}, api.ErrLong}, {"/W[0 4095 1 9999[1]]", api.Font{}, api.ErrLong}, {"/W[0 4096 1 9999]", api.Font{}, api.ErrForm}, {"/W[0 65535 1/x]", api.Font{}, api.ErrForm}, {"/W[0 4096 1 9999[-1]]", api.Font{}, api.ErrForm}, {"/W[0 4096 1]/DW/x", api.Font{}, api.ErrForm},
	} {
		checkRead(t, c.in, parse(t, "<</Subtype/Type0"+c.in+">>"), nil, c.want, c.e)
	}
	f, e := font.Read(parse(t, "<</Subtype/Type0/W[0 4095 1]>>"), nil)
	if len(f.Glyphs) != 4096 || f.Glyphs[4095] != glyph(4095, 1, "") || e != api.OK {
		t.Errorf("P19.3: 4096 glyphs: %d, %d", len(f.Glyphs), e)
	}
}

func TestReadTellsKinds(t *testing.T) {
	for in, want := range map[string]api.Errno{
		"<<>>": api.ErrForm, "<</Subtype null>>": api.ErrForm, "<</Subtype(Type1)>>": api.ErrForm, "<</Subtype 1 0 R>>": api.ErrForm, "<</Subtype[/Type1]>>": api.ErrForm, "[]": api.ErrForm, "null": api.ErrForm, "/Type1": api.ErrForm, "1 0 R": api.ErrForm, "<</Type/Type1>>": api.ErrForm,
		"<</Subtype/Type3>>": api.ErrKind, "<</Subtype/>>": api.ErrKind, "<</Subtype/type1>>": api.ErrKind, "<</Subtype/MMType1>>": api.ErrKind, "<</Subtype/CIDFontType2>>": api.ErrKind, "<</Subtype/Type0 >>": api.OK, "<</Subtype/Type1/FirstChar 0/Widths[]>>": api.OK, "<</Subtype/Type3/FirstChar/x/DW/x/W/x>>": api.ErrKind,
	} {
		if f, e := font.Read(parse(t, in), nil); e != want || e != api.OK && !reflect.DeepEqual(f, api.Font{}) {
			t.Errorf("P19.3: %s: %v, %d, want %d", in, f, e, want)
		}
		// What the codes mean is checked first.
		for _, means := range [][]api.Glyph{{glyph(2, 0, "ab"), glyph(1, 0, "ab")}, {glyph(65536, 0, "ab")}} {
			if f, e := font.Read(parse(t, in), means); e != api.ErrArg || !reflect.DeepEqual(f, api.Font{}) {
				t.Errorf("P19.3: %s with %v: %v, %d", in, means, f, e)
			}
		}
	}
	list := api.Obj{Kind: api.ObjList, Keys: []string{"Subtype"}, Parts: []api.Obj{{Kind: api.ObjName, Text: "Type0"}}}
	checkRead(t, "a list with keys", list, nil, api.Font{}, api.ErrForm)
}

func TestReadMeans(t *testing.T) {
	simpleDict := parse(t, "<</Subtype/Type1/FirstChar 65/Widths[500 600]>>")
	wideDict := parse(t, "<</Subtype/Type0/DW 7/W[65[500]300[3]]>>")
	for name, means := range map[string][]api.Glyph{
		"falling": {glyph(2, 0, "ab"), glyph(1, 0, "ab")}, "a code twice": {glyph(1, 0, "ab"), glyph(1, 0, "ab")}, "falling at the end": {glyph(1, 0, "ab"), glyph(3, 0, "ab"), glyph(2, 0, "ab")}, "code -1": {glyph(-1, 0, "ab")}, "code -1 at the beginning": {glyph(-1, 0, "ab"), glyph(5, 0, "ab")}, "code 65536": {glyph(65536, 0, "ab")}, "the least code": {glyph(math.MinInt, 0, "ab")},
		"no text": {glyph(1, 0, "")}, "a text of 1": {glyph(1, 0, "a")}, "a text of 3": {glyph(1, 0, "abc")}, "a text of 18": {glyph(1, 0, "abcdefghijklmnopqr")}, "a text of 17": {glyph(1, 0, "abcdefghijklmnopq")}, "a width": {glyph(1, 5, "ab")}, "a width below 0": {glyph(1, -5, "ab")}, "wrong at the end": {glyph(1, 0, "ab"), glyph(2, 0, "ab"), glyph(3, 0, "")},
	} {
		checkRead(t, name, simpleDict, means, api.Font{}, api.ErrArg)
		checkRead(t, name, wideDict, means, api.Font{}, api.ErrArg)
	}
	for _, c := range []struct {
		o     api.Obj
		means []api.Glyph
		want  api.Font
		e     api.Errno
	}{
		{simpleDict, []api.Glyph{glyph(65, 0, "\x00A")}, simple(glyph(65, 500, "\x00A"), glyph(66, 600, "")), api.OK}, {simpleDict, []api.Glyph{glyph(66, 0, "0123456789abcdef")}, simple(glyph(65, 500, ""), glyph(66, 600, "0123456789abcdef")), api.OK},
		{simpleDict, []api.Glyph{glyph(0, 0, "ab"), glyph(64, 0, "cd"), glyph(67, 0, "ef"), glyph(255, 0, "\xff\xff")}, simple(glyph(0, 0, "ab"), glyph(64, 0, "cd"), glyph(65, 500, ""), glyph(66, 600, ""), glyph(67, 0, "ef"), glyph(255, 0, "\xff\xff")), api.OK},
		{wideDict, []api.Glyph{glyph(1, 0, "ab"), glyph(65, 0, "cd"), glyph(66, 0, "ef"), glyph(300, 0, "gh"), glyph(65535, 0, "ij")}, wide(7, glyph(1, 7, "ab"), glyph(65, 500, "cd"), glyph(66, 7, "ef"), glyph(300, 3, "gh"), glyph(65535, 7, "ij")), api.OK},
		{simpleDict, []api.Glyph{glyph(256, 0, "ab")}, api.Font{}, api.ErrArg}, {simpleDict, []api.Glyph{glyph(65, 0, "ab"), glyph(65535, 0, "ab")}, api.Font{}, api.ErrArg}, {wideDict, []api.Glyph{glyph(256, 0, "ab")}, wide(7, glyph(65, 500, ""), glyph(256, 7, "ab"), glyph(300, 3, "")), api.OK},
		// The errors of the dictionary come ahead of codes that are too great for it.
		{parse(t, "<</Subtype/Type1>>"), []api.Glyph{glyph(256, 0, "ab")}, api.Font{}, api.ErrForm}, {parse(t, "<</Subtype/Type3>>"), []api.Glyph{glyph(256, 0, "ab")}, api.Font{}, api.ErrKind},
	} {
		s, _ := obj.Print(c.o)
		checkRead(t, s, c.o, c.means, c.want, c.e)
	}
	var means []api.Glyph
	for code := range 65536 {
		means = append(means, glyph(code, 0, "ab"))
	}
	for _, c := range []struct {
		in    string
		means []api.Glyph
		want  int
		e     api.Errno
	}{
		{"<</Subtype/Type0>>", means[:4096], 4096, api.OK}, {"<</Subtype/Type0>>", means[:4097], 0, api.ErrLong}, {"<</Subtype/Type0>>", means, 0, api.ErrLong}, {"<</Subtype/Type0/W[0 4095 1]>>", means[:4096], 4096, api.OK}, {"<</Subtype/Type0/W[0 4095 1]>>", means[4096:4097], 0, api.ErrLong},
		{"<</Subtype/Type0/W[1 4095 1]>>", means[:1], 4096, api.OK}, {"<</Subtype/Type1/FirstChar 0/Widths[1]>>", means[:256], 256, api.OK}, {"<</Subtype/Type1/FirstChar 0/Widths[1]>>", means, 0, api.ErrArg}, {"<</Subtype/Type0/W/x>>", means, 0, api.ErrForm},
	} {
		if f, e := font.Read(parse(t, c.in), c.means); len(f.Glyphs) != c.want || e != c.e {
			t.Errorf("P19.3: %s with %d texts: %d glyphs, %d, want %d, %d", c.in, len(c.means), len(f.Glyphs), e, c.want, c.e)
		}
	}
}

func TestWrite(t *testing.T) {
	for _, c := range []struct {
		f     api.Font
		want  string
		means []api.Glyph
	}{
		{simple(), "<< /FirstChar 0 /Subtype /Type1 /Type /Font /Widths [ ] >>", nil}, {simple(glyph(65, 500, "\x00A")), "<< /FirstChar 65 /Subtype /Type1 /Type /Font /Widths [ 500 ] >>", []api.Glyph{glyph(65, 0, "\x00A")}},
		{simple(glyph(0, 1, ""), glyph(3, 4, "ab"), glyph(4, 0, "cd"), glyph(6, 10000, "")), "<< /FirstChar 0 /Subtype /Type1 /Type /Font /Widths [ 1 0 0 4 0 0 10000 ] >>", []api.Glyph{glyph(3, 0, "ab"), glyph(4, 0, "cd")}},
		{simple(glyph(253, 1, ""), glyph(255, 2, "")), "<< /FirstChar 253 /Subtype /Type1 /Type /Font /Widths [ 1 0 2 ] >>", nil},
		{wide(0), "<< /DW 0 /Subtype /Type0 /Type /Font /W [ ] >>", nil}, {wide(10000, glyph(0, 5, "ab")), "<< /DW 10000 /Subtype /Type0 /Type /Font /W [ 0 [ 5 ] ] >>", []api.Glyph{glyph(0, 0, "ab")}},
		{wide(1000, glyph(1, 7, ""), glyph(2, 7, ""), glyph(3, 8, "ab"), glyph(5, 7, ""), glyph(65534, 0, ""), glyph(65535, 1000, "\xff\xff")), "<< /DW 1000 /Subtype /Type0 /Type /Font /W [ 1 [ 7 7 8 ] 5 [ 7 ] 65534 [ 0 1000 ] ] >>", []api.Glyph{glyph(3, 0, "ab"), glyph(65535, 0, "\xff\xff")}},
	} {
		o, means, e := font.Write(c.f)
		s, g := obj.Print(o)
		if s != c.want || g != api.OK || !slices.Equal(means, c.means) || e != api.OK {
			t.Errorf("P19.4: %v: %s, %v, %d, want %s, %v", c.f, s, means, e, c.want, c.means)
		}
	}
	for _, other := range []int{1, 10000} {
		if o, means, e := font.Write(api.Font{Other: other, Glyphs: []api.Glyph{glyph(1, 1, "ab")}}); !reflect.DeepEqual(o, api.Obj{}) || means != nil || e != api.ErrKind {
			t.Errorf("P19.4: Other %d: %v, %v, %d", other, o, means, e)
		}
	}
	if _, _, e := font.Write(api.Font{Other: 1, Glyphs: []api.Glyph{glyph(256, 1, "")}}); e != api.ErrArg {
		t.Errorf("P19.4: not valid, with Other: %d", e)
	}
	// One run of the greatest length, and as many runs as there may be.
	run := wide(0)
	for code := range 4096 {
		run.Glyphs = append(run.Glyphs, glyph(code, code, ""))
	}
	o, _, e := font.Write(run)
	if w, _ := obj.Get(o, "W"); len(w.Parts) != 2 || len(w.Parts[1].Parts) != 4096 || obj.Check(o) != api.OK || e != api.OK {
		t.Errorf("P19.4: a run of 4096: %d parts, %d", len(w.Parts), e)
	}
	o, _, e = font.Write(wide(0, many(4096)...))
	if w, _ := obj.Get(o, "W"); len(w.Parts) != 8192 || e != api.OK {
		t.Errorf("P19.4: 4096 runs: %d parts, %d", len(w.Parts), e)
	}
	if f, e := font.Read(o, nil); !slices.Equal(f.Glyphs, many(4096)) || e != api.OK {
		t.Errorf("P19.5: 4096 runs: %d glyphs, %d", len(f.Glyphs), e)
	}
}

func TestWrittenFontsAreRead(t *testing.T) {
	r := rand.New(rand.NewSource(191))
	for range 150 {
		f := some(r)
		o, means, e := font.Write(f)
		if e != api.OK {
			t.Fatalf("P19.4: %v: %d", f, e)
		}
		text, e := cmap.Print(means, f.Wide)
		if e != api.OK {
			t.Fatalf("P19.4: %v: %d", means, e)
		}
		again, e := cmap.Parse([]byte(text), f.Wide)
		g, h := font.Read(o, again)
		if e != api.OK || h != api.OK || font.Check(g) != api.OK {
			t.Fatalf("P19.5: %v: %d, %d", f, e, h)
		}
		found := map[int]api.Glyph{}
		for _, x := range g.Glyphs {
			found[x.Code] = x
		}
		for code := range allCodes(f) {
			want := glyph(code, f.Other, "")
			if i := slices.IndexFunc(f.Glyphs, func(x api.Glyph) bool { return x.Code == code }); i >= 0 {
				want = f.Glyphs[i]
			}
			got, there := found[code]
			if !there {
				got = glyph(code, g.Other, "")
			}
			if got != want || code%97 == 0 && font.Find(g, code) != want {
				t.Fatalf("P19.5: code %s: %v, want %v", strconv.Itoa(code), got, want)
			}
		}
	}
}
