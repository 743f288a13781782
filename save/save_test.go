package save_test

import (
	"bytes"
	"math"
	"math/rand"
	"slices"
	"strconv"
	"strings"
	"testing"

	"erasure/api"
	"erasure/emit"
	"erasure/file"
	"erasure/font"
	"erasure/obj"
	"erasure/save"
)

// simple has A, 500 wide, and C; wide is 1000 wide but for 258 and 259, of which the first one has a text, and 7.
func simple() api.Font {
	return api.Font{Glyphs: []api.Glyph{{Code: 65, Width: 500, Text: "\x00A"}, {Code: 67, Width: 250}}}
}

func wide() api.Font {
	return api.Font{Wide: true, Other: 1000, Glyphs: []api.Glyph{{Code: 7, Width: 1}, {Code: 258, Width: 2, Text: "\x01\x02"}, {Code: 259, Width: 3}}}
}

// full returns a page with two fonts, three pictures and marks of all kinds.
func full(t *testing.T) api.Page {
	t.Helper()
	p := api.Page{Box: api.Box{X0: decimal(t, "-0.5"), Y0: number(0), X1: decimal(t, "99.25"), Y1: number(50)}}
	p.Fonts = []api.Named{{Name: "A b", Font: simple()}, {Name: "W", Font: wide()}}
	p.Pictures = []api.Picture{picture("X", 2, 1, 8, 1, "ab"), picture("Y", 1, 1, 8, 3, "abc"), picture("Z", 3, 1, 1, 4, "\xff\xff")}
	p.Marks = marks(t, "1 w 2 Tr BT /A#20b 2 Tf (AC) Tj /W 1 Tf <0102> Tj ET 0 g 1 1 m 5 6 l S 9 0 0 9 0 0 cm /X Do /Z Do BI /W 1 ID data EI", p.Fonts)
	return p
}

func TestSave(t *testing.T) {
	for _, c := range []struct {
		name string
		l    []api.Page
		want []byte
	}{
		{"no pages", nil, written("<< /Pages 2 0 R /Type /Catalog >>", "<< /Count 0 /Kids [ ] /Type /Pages >>")},
		{"an empty page", []api.Page{{}}, written("<< /Pages 2 0 R /Type /Catalog >>", "<< /Count 1 /Kids [ 3 0 R ] /Type /Pages >>",
			"<< /Contents 4 0 R /MediaBox [ 0 0 0 0 ] /Parent 2 0 R /Resources << /Font << >> /XObject << >> >> /Type /Page >>", packed(t, "", "", "", ""))},
		{"all kinds of things, and another page", []api.Page{full(t), {Box: area(1, 2, 3, 4), Fonts: []api.Named{{Name: "F"}}}}, written("<< /Pages 2 0 R /Type /Catalog >>", "<< /Count 2 /Kids [ 3 0 R 11 0 R ] /Type /Pages >>",
			"<< /Contents 4 0 R /MediaBox [ -0.5 0 99.25 50 ] /Parent 2 0 R /Resources << /Font << /A#20b 5 0 R /W 7 0 R >> /XObject << /X 9 0 R /Y 10 0 R /Z 11 0 R >> >> /Type /Page >>", "")},
	} {
		if c.name == "all kinds of things, and another page" {
			c.want = fullFile(t)
		}
		b, e := save.Save(c.l)
		if !bytes.Equal(b, c.want) || e != api.OK {
			t.Errorf("P25.2: %s: %d\n%q\nwant\n%q", c.name, e, b, c.want)
		}
	}
}

// fullFile returns the file of a full page and an empty one with a font.
func fullFile(t *testing.T) []byte {
	t.Helper()
	contents := strings.Join([]string{
		"q\n2 Tr\n1 w\n2 0 0 2 0 0 cm\nBT\n/A#20b 1 Tf\n<41> Tj\nET\nQ\n", "q\n2 Tr\n1 w\n2 0 0 2 1 0 cm\nBT\n/A#20b 1 Tf\n<43> Tj\nET\nQ\n", "q\n2 Tr\n1 w\n1 0 0 1 1.5 0 cm\nBT\n/W 1 Tf\n<0102> Tj\nET\nQ\n",
		"q\n0 g\n1 w\n1 0 0 1 0 0 cm\n1 1 m\n5 6 l\nS\nQ\n", "q\n0 g\n1 w\n9 0 0 9 0 0 cm\n/X Do\nQ\n", "q\n0 g\n1 w\n9 0 0 9 0 0 cm\n/Z Do\nQ\n", "q\n0 g\n1 w\n9 0 0 9 0 0 cm\nBI /W 1 ID data\nEI\nQ\n",
	}, "")
	return written("<< /Pages 2 0 R /Type /Catalog >>", "<< /Count 2 /Kids [ 3 0 R 12 0 R ] /Type /Pages >>",
		"<< /Contents 4 0 R /MediaBox [ -0.5 0 99.25 50 ] /Parent 2 0 R /Resources << /Font << /A#20b 5 0 R /W 7 0 R >> /XObject << /X 9 0 R /Y 10 0 R /Z 11 0 R >> >> /Type /Page >>",
		packed(t, contents, "", "", ""),
		"<< /BaseFont /Cut /FirstChar 65 /Subtype /Type1 /ToUnicode 6 0 R /Type /Font /Widths [ 500 0 250 ] >>", packed(t, "1 beginbfchar <41> <0041> endbfchar", "", "", ""),
		"<< /BaseFont /Cut /DW 1000 /Subtype /Type0 /ToUnicode 8 0 R /Type /Font /W [ 7 [ 1 ] 258 [ 2 3 ] ] >>", packed(t, "1 beginbfchar <0102> <0102> endbfchar", "", "", ""),
		packed(t, "ab", "/BitsPerComponent 8 /ColorSpace /DeviceGray", "/Height 1", "/Subtype /Image /Type /XObject /Width 2"), packed(t, "abc", "/BitsPerComponent 8 /ColorSpace /DeviceRGB", "/Height 1", "/Subtype /Image /Type /XObject /Width 1"), packed(t, "\xff\xff", "/BitsPerComponent 1 /ColorSpace /DeviceCMYK", "/Height 1", "/Subtype /Image /Type /XObject /Width 3"),
		"<< /Contents 13 0 R /MediaBox [ 1 2 3 4 ] /Parent 2 0 R /Resources << /Font << /F 14 0 R >> /XObject << >> >> /Type /Page >>", packed(t, "", "", "", ""), "<< /BaseFont /Cut /FirstChar 0 /Subtype /Type1 /Type /Font /Widths [ ] >>")
}

// faults are what makes a full page one that is not valid.
func faults() map[string]func(*api.Page) {
	change := func(f func(p *api.Page)) func(*api.Page) {
		return func(p *api.Page) {
			p.Fonts, p.Pictures, p.Marks = slices.Clone(p.Fonts), slices.Clone(p.Pictures), slices.Clone(p.Marks)
			f(p)
		}
	}
	return map[string]func(*api.Page){
		"a box that is turned": change(func(p *api.Page) { p.Box = area(1, 0, 0, 0) }), "a box that is not valid": change(func(p *api.Page) { p.Box.X0 = api.Dec{S: 1} }),
		"a font that is not valid": change(func(p *api.Page) { p.Fonts[1].Font.Other = 10001 }), "a font that can't be written": change(func(p *api.Page) { p.Fonts[0].Font.Other = 1 }), "a font without a name": change(func(p *api.Page) { p.Fonts = append([]api.Named{{}}, p.Fonts...) }), "a font with a wrong name": change(func(p *api.Page) { p.Fonts = append(p.Fonts, api.Named{Name: "X\x00"}) }), "a font with a long name": change(func(p *api.Page) { p.Fonts = append(p.Fonts, api.Named{Name: strings.Repeat("X", 65536)}) }),
		"fonts in another order": change(func(p *api.Page) { p.Fonts[0], p.Fonts[1] = p.Fonts[1], p.Fonts[0] }), "a font twice": change(func(p *api.Page) { p.Fonts = append(p.Fonts, p.Fonts[1]) }), "65 fonts": change(func(p *api.Page) {
			for i := range 63 {
				p.Fonts = append(p.Fonts, api.Named{Name: "X" + string(rune('A'+i))})
			}
		}), "a font too few": change(func(p *api.Page) { p.Fonts = p.Fonts[1:] }), "another font": change(func(p *api.Page) { p.Fonts[0].Font = wide() }),
		"a picture that is not valid": change(func(p *api.Page) { p.Pictures[1].Image.Data = nil }), "a picture of two components": change(func(p *api.Page) { p.Pictures[1] = picture("Y", 1, 1, 8, 2, "ab") }), "a picture without a name": change(func(p *api.Page) { p.Pictures = append([]api.Picture{picture("", 1, 1, 8, 1, "a")}, p.Pictures...) }), "a picture with a wrong name": change(func(p *api.Page) { p.Pictures = append(p.Pictures, picture("a\x00", 1, 1, 8, 1, "a")) }),
		"a picture with a long name": change(func(p *api.Page) {
			p.Pictures = append(p.Pictures, picture(strings.Repeat("z", 65536), 1, 1, 8, 1, "a"))
		}), "pictures in another order": change(func(p *api.Page) { p.Pictures[0], p.Pictures[1] = p.Pictures[1], p.Pictures[0] }), "pictures in another order, of which none is seen": change(func(p *api.Page) {
			p.Marks = nil
			p.Pictures[0], p.Pictures[1] = p.Pictures[1], p.Pictures[0]
		}), "fonts in another order, of which none is seen": change(func(p *api.Page) { p.Marks = nil; p.Fonts[0], p.Fonts[1] = p.Fonts[1], p.Fonts[0] }), "a picture twice": change(func(p *api.Page) { p.Pictures = append(p.Pictures, p.Pictures[2]) }), "1025 pictures": change(func(p *api.Page) { p.Pictures = append(p.Pictures, many(1022)...) }),
		"a picture too few": change(func(p *api.Page) { p.Pictures = p.Pictures[1:] }), "no pictures": change(func(p *api.Page) { p.Pictures = nil }), "a mark of no kind": change(func(p *api.Page) { p.Marks[0].Kind = 0 }), "a mark that can't be emitted": change(func(p *api.Page) { p.Marks[3].Box.X0 = number(-9) }), "a font among the pictures": change(func(p *api.Page) { p.Marks[4].Name = "W" }), "4097 marks": change(func(p *api.Page) { p.Marks = slices.Repeat(p.Marks[3:4], 4097) }),
	}
}

// many returns n pictures, with names that begin with z.
func many(n int) []api.Picture {
	var l []api.Picture
	for i := range n {
		l = append(l, picture("z"+string([]byte{byte('a' + i/400), byte('a' + i/20%20), byte('a' + i%20)}), 1, 1, 8, 1, "a"))
	}
	return l
}

func TestCheck(t *testing.T) {
	good := full(t)
	empty := api.Page{}
	more := full(t)
	more.Pictures = append(more.Pictures, many(1021)...)
	more.Marks = append(slices.Repeat(more.Marks[3:4], 4095), more.Marks[6])
	for i := range 62 {
		more.Fonts = append(more.Fonts, api.Named{Name: "X" + string(rune('A'+i))})
	}
	for name, l := range map[string][]api.Page{"none": nil, "one": {good}, "an empty one": {empty}, "three": {good, empty, good}, "64 fonts, 1024 pictures and 4096 marks": {more}, "256": slices.Repeat([]api.Page{empty}, 256)} {
		if e := save.Check(l); e != api.OK {
			t.Errorf("P25.1: %s: %d", name, e)
		}
		if _, e := save.Save(l); e != api.OK {
			t.Errorf("P25.2: %s: %d", name, e)
		}
	}
	for name, f := range faults() {
		bad := full(t)
		f(&bad)
		for i, l := range [][]api.Page{{bad}, {good, bad}, {bad, empty}} {
			if e := save.Check(l); e != api.ErrArg {
				t.Errorf("P25.1: %s, %d: %d", name, i, e)
			}
			if b, e := save.Save(l); b != nil || e != api.ErrArg {
				t.Errorf("P25.2: %s, %d: %d", name, i, e)
			}
		}
	}
	for _, l := range [][]api.Page{slices.Repeat([]api.Page{empty}, 257), slices.Repeat([]api.Page{{Box: area(1, 0, 0, 0)}}, 257)} {
		if e := save.Check(l); e != api.ErrLong {
			t.Errorf("P25.1: 257 pages: %d", e)
		}
		if b, e := save.Save(l); b != nil || e != api.ErrLong {
			t.Errorf("P25.2: 257 pages: %d", e)
		}
	}
}

// What is valid, but too much for a file.
func TestSaveRefuses(t *testing.T) {
	runs := api.Font{Wide: true}
	for i := range 2049 {
		runs.Glyphs = append(runs.Glyphs, api.Glyph{Code: 2 * i})
	}
	noise := make([]byte, 65535)
	rand.New(rand.NewSource(25)).Read(noise)
	inline := func(data []byte) api.Mark {
		o := api.Op{Name: "BI", Args: []api.Obj{{Kind: api.ObjDict}, {Kind: api.ObjText, Text: string(data)}}}
		return api.Mark{Kind: api.MarkImage, M: api.Mat{A: number(1), D: number(1)}, Ops: []api.Op{o}, Box: area(0, 0, 1, 1)}
	}
	path := marks(t, "1 1 m "+strings.Repeat("h ", 4095)+"S", nil)
	for name, p := range map[string]api.Page{
		"an image that would end too early": {Marks: []api.Mark{inline([]byte("a EI b"))}}, "2049 runs of codes": {Fonts: []api.Named{{Name: "F", Font: runs}}}, "more than 65536 operators": {Marks: slices.Repeat(path, 16)}, "more than 1048576 bytes of contents": {Marks: slices.Repeat([]api.Mark{inline([]byte(strings.Repeat("x", 65535)))}, 16)},
	} {
		if e := save.Check([]api.Page{p}); e != api.OK {
			t.Errorf("P25.1: %s: %d", name, e)
		}
		for i, l := range [][]api.Page{{p}, {{}, p}, {p, {}}} {
			if b, e := save.Save(l); b != nil || e != api.ErrLong {
				t.Errorf("P25.2: %s, %d: %d bytes, %d", name, i, len(b), e)
			}
		}
	}
	runs.Glyphs = runs.Glyphs[1:]
	for name, p := range map[string]api.Page{"2048 runs of codes": {Fonts: []api.Named{{Name: "F", Font: runs}}}, "15 long paths": {Marks: slices.Repeat(path, 15)}, "a long image": {Marks: []api.Mark{inline(bytes.ReplaceAll(noise, []byte("EI"), nil))}}} {
		if _, back := saved(t, []api.Page{p}); told(back) != told([]api.Page{p}) {
			t.Errorf("P25.4: %s: %d pages", name, len(back))
		}
	}
	// More objects than a table may have.
	l := slices.Repeat([]api.Page{{Pictures: many(1024)}}, 64)
	if b, e := save.Save(l); b != nil || e != api.ErrLong {
		t.Errorf("P25.2: 65666 objects: %d bytes, %d", len(b), e)
	}
}

// filled returns pages in which each font that is not wide has a glyph for every code from its first one to its last one.
func filled(l []api.Page) []api.Page {
	out := slices.Clone(l)
	for i := range out {
		out[i].Fonts = slices.Clone(out[i].Fonts)
		for k, x := range out[i].Fonts {
			if n := len(x.Font.Glyphs); !x.Font.Wide && n > 0 {
				var glyphs []api.Glyph
				for code := x.Font.Glyphs[0].Code; code <= x.Font.Glyphs[n-1].Code; code++ {
					glyphs = append(glyphs, font.Find(x.Font, code))
				}
				out[i].Fonts[k].Font.Glyphs = glyphs
			}
		}
	}
	return out
}

// somePage returns a page with random things on it.
func somePage(t *testing.T, r *rand.Rand) api.Page {
	n := func() api.Dec { return api.Dec{M: 10*r.Intn(99) + 1 - 500, S: r.Intn(3)} }
	p := api.Page{Box: area(r.Intn(5)-9, r.Intn(9)-9, r.Intn(50), r.Intn(9))}
	for _, name := range []string{"", "A", "B\xff", "C#", "D"} {
		if name == "" || r.Intn(2) == 0 {
			continue
		}
		f := api.Font{Wide: r.Intn(2) == 0}
		if f.Wide {
			f.Other = r.Intn(3) * 500
		}
		for code := r.Intn(60); code < 256 && len(f.Glyphs) < 5; code += 1 + r.Intn(2)*r.Intn(90) {
			f.Glyphs = append(f.Glyphs, api.Glyph{Code: code, Width: r.Intn(3) * 250, Text: []string{"", "\x00a", "\xd8\x00", "\x00a\x00b"}[r.Intn(4)]})
		}
		p.Fonts = append(p.Fonts, api.Named{Name: name, Font: f})
	}
	for _, name := range []string{"A", "X y", "\x80"} {
		if r.Intn(2) == 0 {
			im := api.Image{Width: 1 + r.Intn(9), Height: 1 + r.Intn(3), Bits: []int{1, 2, 4, 8, 16}[r.Intn(5)], Comps: []int{1, 3, 4}[r.Intn(3)]}
			im.Data = make([]byte, im.Height*((im.Width*im.Bits*im.Comps+7)/8))
			r.Read(im.Data)
			p.Pictures = append(p.Pictures, api.Picture{Name: name, Image: im})
		}
	}
	for range r.Intn(6) {
		b := area(0, 0, r.Intn(9), r.Intn(9))
		b.X0, b.X1 = n(), number(600)
		m, e := emit.Cover(b)
		if e != api.OK {
			t.Fatal(e)
		}
		p.Marks = append(p.Marks, m)
	}
	for range r.Intn(8) {
		s := []string{"BI /W 1 ID data EI", "1 w 1 1 m 2 3 l h b", "[ 1 2 ] 0 d 5 5 1 1 re S"}[r.Intn(3)]
		if len(p.Fonts) > 0 && r.Intn(2) == 0 {
			name, _ := obj.Print(api.Obj{Kind: api.ObjName, Text: p.Fonts[r.Intn(len(p.Fonts))].Name})
			s = "1 Tr BT " + name + " " + strconv.Itoa(r.Intn(9)) + " Tf (abcd) Tj ET"
		} else if len(p.Pictures) > 0 && r.Intn(2) == 0 {
			name, _ := obj.Print(api.Obj{Kind: api.ObjName, Text: p.Pictures[r.Intn(len(p.Pictures))].Name})
			s = "2 0 0 3 1 1 cm " + name + " Do"
		}
		p.Marks = append(p.Marks, marks(t, s, p.Fonts)...)
	}
	return p
}

func TestSavedPagesAreLoaded(t *testing.T) {
	r := rand.New(rand.NewSource(251))
	for range 150 {
		var l []api.Page
		for range r.Intn(4) {
			l = append(l, somePage(t, r))
		}
		b, back := saved(t, l)
		if got, want := told(back), told(filled(l)); got != want {
			t.Fatalf("P25.4: %s\nwant\n%s", got, want)
		}
		if e := save.Check(back); e != api.OK {
			t.Fatalf("P25.4: %s: %d", told(back), e)
		}
		again, _ := saved(t, back)
		if !bytes.Equal(again, b) {
			t.Fatalf("P25.4: saved again:\n%q\nwant\n%q", again, b)
		}
		checkReached(t, b)
	}
}

// checkReached tells whether a file has one table, of which all objects are reachable from the root.
func checkReached(t *testing.T, b []byte) {
	t.Helper()
	f, e := file.Open(b)
	if e != api.OK || bytes.Count(b, []byte("\nxref\n")) != 1 {
		t.Fatalf("P25.4: %q: %d", b, e)
	}
	if _, found := obj.Get(f.Trailer(), "Prev"); found {
		t.Fatalf("P25.4: %q", b)
	}
	reached := map[int]struct{}{}
	var visit func(o api.Obj)
	visit = func(o api.Obj) {
		for _, p := range o.Parts {
			visit(p)
		}
		if _, before := reached[o.Ref]; o.Kind == api.ObjRef && !before {
			reached[o.Ref] = struct{}{}
			x, e := f.Get(o.Ref)
			if e != api.OK {
				t.Fatalf("P25.4: %q: object %d: %d", b, o.Ref, e)
			}
			visit(x.Obj)
		}
	}
	visit(f.Trailer())
	if n := len(f.Ids()); len(reached) != n || n == 0 || f.Ids()[n-1] != n {
		t.Fatalf("P25.4: %q: %d of %d objects", b, len(reached), n)
	}
}

func TestArgumentsAreKept(t *testing.T) {
	l := []api.Page{full(t), full(t), {}}
	want := told(l)
	b, e := save.Save(l[:2])
	save.Check(l[:2])
	if told(l) != want || e != api.OK {
		t.Errorf("R2: %s", told(l))
	}
	kept := slices.Clone(b)
	back, _ := save.Load(b)
	if !bytes.Equal(b, kept) {
		t.Error("R2: Load changes the file")
	}
	text := told(back)
	clear(b)
	if told(back) != text {
		t.Error("R2: pages change with the file")
	}
	if l, e := save.Load(nil); l != nil || e != api.ErrForm {
		t.Errorf("P25.3: %v, %d", l, e)
	}
	if e := save.Check([]api.Page{{Marks: []api.Mark{{Kind: math.MinInt}}}}); e != api.ErrArg {
		t.Errorf("R1: %d", e)
	}
}
