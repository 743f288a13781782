package save_test

import (
	"math/rand"
	"slices"
	"strconv"
	"strings"
	"testing"

	"erasure/api"
	"erasure/save"
)

// goodPage is the page of the good file.
func goodPage(t *testing.T) api.Page {
	t.Helper()
	f := []api.Named{{Name: "F", Font: api.Font{Glyphs: []api.Glyph{{Code: 65, Width: 500, Text: "\x00A"}}}}}
	return api.Page{Box: area(0, 0, 9, 9), Fonts: f, Pictures: []api.Picture{picture("X", 2, 1, 8, 1, "ab")}, Marks: marks(t, "BT /F 1 Tf (A) Tj ET /X Do", f)}
}

// refers returns n objects from a number on, each of which refers to the next one, and the last one to another object.
func refers(from, n, to int) objects {
	l := objects{}
	for i := range n {
		l[from+i] = strconv.Itoa(from+i+1) + " 0 R"
	}
	l[from+n-1] = strconv.Itoa(to) + " 0 R"
	return l
}

func both(a, b objects) objects {
	for id, s := range b {
		a[id] = s
	}
	return a
}

const page3 = "/Contents 4 0 R/Resources 5 0 R"

// Files that are other ones than the good file, but have the same page.
func TestLoadTheSame(t *testing.T) {
	want := told([]api.Page{goodPage(t)})
	box := "/MediaBox[0 0 9 9]"
	fontKeys := "/Subtype/Type1/FirstChar 65/Widths[500]"
	for name, changes := range map[string]objects{
		"nothing changed": {}, "no types": {1: "<</Pages 2 0 R>>", 2: "<</Kids[3 0 R]" + box + ">>", 3: "<<" + page3 + ">>"}, "other types": {1: "<</Type/X/Pages 2 0 R>>", 2: "<</Type/Page/Kids[3 0 R]/Count -5" + box + ">>"}, "a page alone": {1: "<</Pages 3 0 R>>", 3: "<<" + box + page3 + ">>"}, "more objects, and keys": {3: "<</Annots 50 0 R/Rotate 90/CropBox[]" + page3 + ">>", 30: "(secret)"},
		"all in one": {1: "<</Pages<</Kids[<<" + box + "/Contents 4 0 R/Resources<</Font<</F<<" + fontKeys + "/ToUnicode 10 0 R>>>>/XObject<</X 9 0 R>>>>>>]>>>>"}, "a root behind references": {1: "20 0 R", 20: "21 0 R", 21: "<</Pages 2 0 R>>"}, "kids behind a reference": {2: "<</Kids 20 0 R" + box + ">>", 20: "[21 0 R]", 21: "3 0 R"}, "a tree in between": {2: "<</Kids[20 0 R]" + box + ">>", 20: "<</Kids[3 0 R]>>"}, "trees without pages": {2: "<</Kids[20 0 R 3 0 R 20 0 R]" + box + ">>", 20: "<</Kids[]>>"},
		// What applies to what is below.
		"its own box": {2: "<</Kids[3 0 R]/MediaBox[1 1 2 2]>>", 3: "<<" + box + page3 + ">>"}, "the nearer box": {2: "<</Kids[20 0 R]/MediaBox[1 1 2 2]>>", 20: "<</Kids[3 0 R]" + box + ">>"}, "resources from above": {2: "<</Kids[3 0 R]/Resources 5 0 R" + box + ">>", 3: "<</Contents 4 0 R>>"}, "resources from far above": {2: "<</Kids[20 0 R]/Resources 5 0 R" + box + ">>", 20: "<</Kids[21 0 R]>>", 21: "<</Kids[3 0 R]>>", 3: "<</Contents 4 0 R>>"}, "resources that are not needed": {2: "<</Kids[3 0 R]/Resources 50 0 R" + box + ">>"},
		"a box that is not needed": {2: "<</Kids[3 0 R]/MediaBox 50 0 R>>", 3: "<<" + box + page3 + ">>"}, "contents do not apply": {2: "<</Kids[3 0 R]/Contents 50 0 R" + box + ">>"}, "a box of a neighbour": {2: "<</Kids[20 0 R 3 0 R]" + box + ">>", 20: "<</Kids[]/MediaBox[1 1 2 2]/Resources 50 0 R>>"},
		"a box behind references": {2: "<</Kids[3 0 R]/MediaBox 20 0 R>>", 20: "[21 0 R 0 22 0 R 23 0 R]", 21: "0.0", 22: "23 0 R", 23: "9"},
		// Contents.
		"contents in pieces": {3: "<</Contents[20 0 R 21 0 R 22 0 R]/Resources 5 0 R>>", 20: stream("BT /F 1", ""), 21: stream("Tf (A) Tj ET", ""), 22: stream("/X Do", "")}, "contents behind references": {3: "<</Contents 20 0 R/Resources 5 0 R>>", 20: "21 0 R", 21: "4 0 R"}, "a list behind a reference": {3: "<</Contents 20 0 R/Resources 5 0 R>>", 20: "[21 0 R 4 0 R]", 21: "22 0 R", 22: stream("", "")}, "contents of which each ends a line": {3: "<</Contents[20 0 R 21 0 R]/Resources 5 0 R>>", 20: stream("BT /F 1 Tf (A) Tj ET /X Do %", ""), 21: stream("% x", "")},
		"packed contents": {4: stream("4254202F462031205466202841292054 6A204554202F5820446F>", "/Filter/ASCIIHexDecode")}, "the last of 32 references to contents": both(refers(20, 31, 4), objects{3: "<</Contents 20 0 R/Resources 5 0 R>>"}),
		// Resources.
		"resources behind references": {5: "20 0 R", 20: "<</Font 21 0 R/XObject 22 0 R>>", 21: "6 0 R", 22: "<</X 23 0 R>>", 23: "24 0 R", 24: "9 0 R"}, "other resources": {5: "<</Font 6 0 R/XObject 7 0 R/ExtGState 50 0 R/ProcSet[50 0 R]/ColorSpace<</A 50 0 R>>>>"},
		"values of a font behind references": {8: "<</Subtype 20 0 R/FirstChar 21 0 R/Widths 22 0 R/ToUnicode 24 0 R>>", 20: "/TrueType", 21: "65", 22: "[23 0 R]", 23: "500", 24: "10 0 R"}, "other keys of a font": {8: "<<" + fontKeys + "/ToUnicode 10 0 R/BaseFont/Secret/FontDescriptor<</FontFile<</A[50 0 R]>>>>/Encoding[[[50 0 R]]]/A 52 0 R/B[52 0 R]/C<</D[52 0 R]>>>>"}, "a font of which parts refer to it": {8: "<<" + fontKeys + "/ToUnicode 10 0 R/A 8 0 R/B[8 0 R]>>"},
		"values of a picture behind references": {9: stream("ab", "/Subtype 20 0 R/ColorSpace 21 0 R/Width 22 0 R/Height 23 0 R/BitsPerComponent 24 0 R"), 20: "/Image", 21: "25 0 R", 25: "/DeviceGray", 22: "2", 23: "1", 24: "8.0"}, "other keys of a picture": {9: stream("ab", imageKeys+"/Interpolate true/Metadata 50 0 R/Decode2 1")}, "a packed picture": {9: "<<" + imageKeys + "/Filter/ASCIIHexDecode/Length 5>>stream\n6162>\nendstream"},
	} {
		l, e := save.Load(pdf(with(changes)))
		if got := told(l); got != want || e != api.OK {
			t.Errorf("P25.3: %s: %d\n%s\nwant\n%s", name, e, got, want)
		}
	}
}

// Files with other pages than the good file.
func TestLoadOthers(t *testing.T) {
	square := area(0, 0, 9, 9)
	empty := api.Page{Box: square}
	for _, c := range []struct {
		name    string
		changes objects
		want    []api.Page
	}{
		{"no pages", objects{2: "<</Kids[]>>"}, nil}, {"no contents", objects{3: "<<>>"}, []api.Page{empty}}, {"contents that are null", objects{3: "<</Contents null/Resources null>>"}, []api.Page{empty}}, {"contents that are not there", objects{3: "<</Contents 52 0 R/Resources 52 0 R>>"}, []api.Page{empty}}, {"no streams", objects{3: "<</Contents[]>>"}, []api.Page{empty}}, {"contents of which the length is not there", objects{3: "<</Contents 4 0 R>>", 4: "<</Length 52 0 R>>stream\nq Q\nendstream"}, []api.Page{empty}}, {"null that hides what is above", objects{2: "<</Kids[3 0 R]/MediaBox[0 0 9 9]/Resources 5 0 R>>", 3: "<</Resources null>>"}, []api.Page{empty}},
		{"resources without fonts", objects{3: "<</Resources<</Font null/XObject 52 0 R>>>>"}, []api.Page{empty}}, {"empty resources", objects{3: "<</Resources<</Font<<>>/XObject<<>>>>>>"}, []api.Page{empty}},
		{"several pages", objects{2: "<</Kids[20 0 R 21 0 R 20 0 R<</MediaBox[0 0 1 1]>>]/MediaBox[0 0 9 9]>>", 20: "<<>>", 21: "<</Kids[22 0 R 20 0 R]/MediaBox[-1.5 -1 2 2.25]>>", 22: "<</MediaBox[3 3 3 3]>>"}, []api.Page{empty, {Box: area(3, 3, 3, 3)}, {Box: api.Box{X0: decimal(t, "-1.5"), Y0: number(-1), X1: number(2), Y1: decimal(t, "2.25")}}, empty, {Box: area(0, 0, 1, 1)}}},
		{"fonts of all kinds", objects{3: "<</Resources<</Font<</W<</Subtype/Type0/DW 500/W[20 0 R[21 0 R]7 8 22 0 R 9[]]/ToUnicode 24 0 R>>/T<</Subtype/TrueType/FirstChar 1/Widths[]>>/S<</Subtype/Type1/FirstChar 65/Widths[5 6]>>>>>>>>", 20: "5", 21: "10", 22: "20", 24: stream("1 beginbfchar <0102> <0041> endbfchar", "")}, []api.Page{{Box: square, Fonts: []api.Named{
			{Name: "S", Font: api.Font{Glyphs: []api.Glyph{{Code: 65, Width: 5}, {Code: 66, Width: 6}}}}, {Name: "T"}, {Name: "W", Font: api.Font{Wide: true, Other: 500, Glyphs: []api.Glyph{{Code: 5, Width: 10}, {Code: 7, Width: 20}, {Code: 8, Width: 20}, {Code: 258, Width: 500, Text: "\x00A"}}}}}}}},
		{"the codes of a font behind references three deep", objects{3: "<</Resources<</Font<</W<</Subtype/Type0/W 20 0 R>>>>>>>>", 20: "[5 21 0 R]", 21: "[22 0 R]", 22: "7"}, []api.Page{{Box: square, Fonts: []api.Named{{Name: "W", Font: api.Font{Wide: true, Other: 1000, Glyphs: []api.Glyph{{Code: 5, Width: 7}}}}}}}},
		{"a map that isn't wide", objects{3: "<</Resources<</Font<</F<</Subtype/TrueType/FirstChar 5/Widths[7]/ToUnicode 20 0 R>>>>>>>>", 20: stream("1 beginbfchar <0A> <0041> endbfchar", "")}, []api.Page{{Box: square, Fonts: []api.Named{{Name: "F", Font: api.Font{Glyphs: []api.Glyph{{Code: 5, Width: 7}, {Code: 10, Text: "\x00A"}}}}}}}},
		{"a dictionary that is nested deeply once references are followed", objects{3: "<</Resources<</Font<</F<</Subtype/Type1/FirstChar 5/Widths[7]/A 20 0 R>>>>>>>>", 20: strings.Repeat("[", 32) + strings.Repeat("]", 32)}, []api.Page{{Box: square, Fonts: []api.Named{{Name: "F", Font: api.Font{Glyphs: []api.Glyph{{Code: 5, Width: 7}}}}}}}},
		{"pictures of all kinds", objects{3: "<</Resources<</XObject<</Z 20 0 R/A 21 0 R/M 22 0 R>>>>>>", 20: stream("abc", "/Subtype/Image/ColorSpace/DeviceRGB/Width 1/Height 1/BitsPerComponent 8"), 21: stream("ab", "/Subtype/Image/ColorSpace/DeviceCMYK/Width 1/Height 2/BitsPerComponent 2"), 22: stream("ab", "/Subtype/Image/ColorSpace/DeviceGray/Width 1/Height 1/BitsPerComponent 16")}, []api.Page{{Box: square, Pictures: []api.Picture{picture("A", 1, 2, 2, 4, "ab"), picture("M", 1, 1, 16, 1, "ab"), picture("Z", 1, 1, 8, 3, "abc")}}}},
		{"marks without resources", objects{3: "<</Contents 4 0 R>>", 4: stream("1 w 1 1 m 2 2 l S BI /W 1 ID x EI", "")}, []api.Page{{Box: square, Marks: marks(t, "1 w 1 1 m 2 2 l S BI /W 1 ID x EI", nil)}}},
	} {
		l, e := save.Load(pdf(with(c.changes)))
		if got, want := told(l), told(c.want); got != want || e != api.OK {
			t.Errorf("P25.3: %s: %d\n%s\nwant\n%s", c.name, e, got, want)
		}
		if e := save.Check(l); e != api.OK {
			t.Errorf("P25.4: %s: %d", c.name, e)
		}
	}
}

// load tells whether the good file with changes has the error want, and no pages with it.
func load(t *testing.T, name string, changes objects, want api.Errno) {
	t.Helper()
	if l, e := save.Load(pdf(with(changes))); l != nil || e != want {
		t.Errorf("P25.3: %s: %d pages, %d, want %d", name, len(l), e, want)
	}
}

func TestLoadRefusesTrees(t *testing.T) {
	for name, b := range map[string][]byte{"no file": nil, "no table": []byte("%PDF-1.4"), "no root": pdfWith(good(), ""), "a root that is null": pdfWith(good(), "/Root null"), "a root that is not there": pdfWith(good(), "/Root 52 0 R"), "a root that is a list": pdfWith(good(), "/Root[1 0 R]")} {
		if l, e := save.Load(b); l != nil || e != api.ErrForm {
			t.Errorf("P25.3: %s: %v, %d", name, l, e)
		}
	}
	for name, c := range map[string]struct {
		trailer string
		want    api.Errno
	}{"a root that can't be read": {"/Root 50 0 R", api.ErrOver}, "a root that refers to itself": {"/Root 51 0 R", api.ErrDeep}, "an encrypted file": {"/Root 50 0 R/Encrypt 1", api.ErrKind}, "an older table that is not there": {"/Root 1 0 R/Prev 1", api.ErrForm}} {
		if l, e := save.Load(pdfWith(good(), c.trailer)); l != nil || e != c.want {
			t.Errorf("P25.3: %s: %v, %d, want %d", name, l, e, c.want)
		}
	}
	if l, e := save.Load(append(pdf(good()), make([]byte, api.MaxFile)...)); l != nil || e != api.ErrLong {
		t.Errorf("P25.3: a file that is too long: %v, %d", l, e)
	}
	for name, c := range map[string]struct {
		changes objects
		want    api.Errno
	}{
		"a root that is no dictionary": {objects{1: "5"}, api.ErrForm}, "no pages in the root": {objects{1: "<<>>"}, api.ErrForm}, "pages that are null": {objects{1: "<</Pages null>>"}, api.ErrForm}, "pages that are not there": {objects{1: "<</Pages 52 0 R>>"}, api.ErrForm}, "pages that are a list": {objects{2: "[3 0 R]"}, api.ErrForm}, "pages that can't be read": {objects{1: "<</Pages 50 0 R>>"}, api.ErrOver}, "pages that refer to themselves": {objects{1: "<</Pages 51 0 R>>"}, api.ErrDeep},
		"kids that are null": {objects{2: "<</Kids null/MediaBox[0 0 9 9]>>"}, api.ErrForm}, "kids that are not there": {objects{2: "<</Kids 52 0 R>>"}, api.ErrForm}, "kids that are a dictionary": {objects{2: "<</Kids<<>>>>"}, api.ErrForm}, "kids that are a number": {objects{2: "<</Kids 3>>"}, api.ErrForm}, "kids that can't be read": {objects{2: "<</Kids 50 0 R>>"}, api.ErrOver}, "a kid that is null": {objects{2: "<</Kids[null]>>"}, api.ErrForm}, "a kid that is not there": {objects{2: "<</Kids[3 0 R 52 0 R]/MediaBox[0 0 9 9]>>"}, api.ErrForm}, "a kid that can't be read": {objects{2: "<</Kids[3 0 R 50 0 R]/MediaBox[0 0 9 9]>>"}, api.ErrOver}, "a kid that is a number": {objects{2: "<</Kids[3]>>"}, api.ErrForm},
		"trees that lead back": {objects{2: "<</Kids[3 0 R 2 0 R]/MediaBox[0 0 9 9]>>"}, api.ErrDeep}, "trees that lead far back": {objects{2: "<</Kids[20 0 R]>>", 20: "<</Kids[21 0 R]>>", 21: "<</Kids[2 0 R]>>"}, api.ErrDeep}, "the first one on the way": {objects{2: "<</Kids[3 0 R 50 0 R]>>"}, api.ErrForm}, "the first kid": {objects{2: "<</Kids[50 0 R 51 0 R]>>"}, api.ErrOver},
	} {
		load(t, name, c.changes, c.want)
	}
}

func TestTreesAreLimited(t *testing.T) {
	// Trees that are contained in one another: that many ahead of a page.
	for _, c := range []struct {
		trees int
		want  api.Errno
	}{{0, api.OK}, {31, api.OK}, {32, api.ErrDeep}, {33, api.ErrDeep}} {
		l := with(objects{1: "<</Pages 100 0 R>>"})
		for i := range c.trees {
			l[100+i] = "<</Kids[" + strconv.Itoa(101+i) + " 0 R]>>"
		}
		l[100+c.trees] = "<</MediaBox[0 0 9 9]>>"
		if p, e := save.Load(pdf(l)); e != c.want || e == api.OK && len(p) != 1 {
			t.Errorf("P25.3: a page within %d trees: %d, want %d", c.trees, e, c.want)
		}
	}
	// What is too deep isn't read.
	deep := with(objects{1: "<</Pages 100 0 R>>"})
	for i := range 32 {
		deep[100+i] = "<</Kids[" + strconv.Itoa(101+i) + " 0 R]>>"
	}
	deep[132] = "1000000000000000000"
	if _, e := save.Load(pdf(deep)); e != api.ErrDeep {
		t.Errorf("P25.3: what is too deep: %d", e)
	}
	for _, c := range []struct {
		name  string
		pages string
		want  api.Errno
	}{
		{"4096 trees", "[" + strings.Repeat("20 0 R ", 4095) + "]", api.OK}, {"4097 trees", "[" + strings.Repeat("20 0 R ", 4096) + "]", api.ErrLong}, {"one more that can't be read", "[" + strings.Repeat("20 0 R ", 4095) + "50 0 R]", api.ErrLong}, {"the last one that can't be read", "[" + strings.Repeat("20 0 R ", 4094) + "50 0 R]", api.ErrOver},
		{"256 pages", "[" + strings.Repeat("3 0 R ", 256) + "]", api.OK}, {"257 pages", "[" + strings.Repeat("3 0 R ", 257) + "]", api.ErrLong}, {"256 pages and other trees", "[" + strings.Repeat("3 0 R ", 256) + "20 0 R]", api.OK}, {"one more, without a box", "[" + strings.Repeat("3 0 R ", 256) + "<</MediaBox 5>>]", api.ErrLong},
	} {
		p, e := save.Load(pdf(with(objects{2: "<</Kids " + c.pages + "/MediaBox[0 0 9 9]>>", 3: "<<>>", 20: "<</Kids[]>>"})))
		if e != c.want || e != api.OK && p != nil || e == api.OK && strings.Contains(c.name, "256") && len(p) != 256 {
			t.Errorf("P25.3: %s: %d pages, %d, want %d", c.name, len(p), e, c.want)
		}
	}
}

func TestLoadRefusesPages(t *testing.T) {
	long := strings.Repeat("q Q ", 32768)
	for name, c := range map[string]struct {
		changes objects
		want    api.Errno
	}{
		// Boxes.
		"no box": {objects{2: "<</Kids[3 0 R]>>"}, api.ErrForm}, "a box that is null": {objects{3: "<</MediaBox null>>"}, api.ErrForm}, "a box of three numbers": {objects{3: "<</MediaBox[0 0 9]>>"}, api.ErrForm}, "a box of five numbers": {objects{3: "<</MediaBox[0 0 9 9 9]>>"}, api.ErrForm}, "a box with a name": {objects{3: "<</MediaBox[0 0 9/A]>>"}, api.ErrForm}, "a box with null": {objects{3: "<</MediaBox[null 0 9 9]>>"}, api.ErrForm}, "a box that is turned": {objects{3: "<</MediaBox[9 0 0 9]>>"}, api.ErrForm}, "a box that stands on its head": {objects{3: "<</MediaBox[0 9 9 0]>>"}, api.ErrForm}, "a box that is a number": {objects{3: "<</MediaBox 9>>"}, api.ErrForm}, "a box that is a dictionary": {objects{3: "<</MediaBox<</A 0/B 0/C 9/D 9>>>>"}, api.ErrForm},
		"a box that can't be read": {objects{3: "<</MediaBox 50 0 R>>"}, api.ErrOver}, "a number that can't be read": {objects{3: "<</MediaBox[0 0 9 50 0 R]>>"}, api.ErrOver}, "a fifth number that can't be read": {objects{3: "<</MediaBox[0 0 9 9 50 0 R]>>"}, api.ErrOver}, "a number behind a list": {objects{3: "<</MediaBox[0 0 9[50 0 R]]>>"}, api.ErrForm}, "a number that is not there": {objects{3: "<</MediaBox[0 0 9 52 0 R]>>"}, api.ErrForm},
		// Contents.
		"contents that can't be read": {objects{3: "<</Contents 50 0 R>>"}, api.ErrOver}, "contents that refer to themselves": {objects{3: "<</Contents 51 0 R>>"}, api.ErrDeep}, "contents that are a number": {objects{3: "<</Contents 5>>"}, api.ErrForm}, "contents that are a dictionary": {objects{3: "<</Contents<<>>>>"}, api.ErrForm}, "contents that are no stream": {objects{4: "<<>>"}, api.ErrForm}, "contents that are a number behind a reference": {objects{4: "5"}, api.ErrForm}, "contents that are a string": {objects{3: "<</Contents(q Q)>>"}, api.ErrForm},
		"a part that is null": {objects{3: "<</Contents[4 0 R null]/Resources 5 0 R>>"}, api.ErrForm}, "a part that is not there": {objects{3: "<</Contents[4 0 R 52 0 R]/Resources 5 0 R>>"}, api.ErrForm}, "a part that is a list": {objects{3: "<</Contents[[4 0 R]]/Resources 5 0 R>>"}, api.ErrForm}, "a part that is a list behind a reference": {objects{3: "<</Contents[20 0 R]/Resources 5 0 R>>", 20: "[4 0 R]"}, api.ErrForm}, "a part that can't be read": {objects{3: "<</Contents[4 0 R 50 0 R]>>"}, api.ErrOver}, "a part that refers to itself": {objects{3: "<</Contents[51 0 R]>>"}, api.ErrDeep}, "a reference to what is not there": {objects{3: "<</Contents[20 0 R]>>", 20: "52 0 R"}, api.ErrForm},
		"more than 32 references": {both(refers(20, 32, 4), objects{3: "<</Contents[20 0 R]/Resources 5 0 R>>"}), api.ErrDeep}, "32 references, and a number": {both(refers(20, 31, 60), objects{3: "<</Contents[20 0 R]>>", 60: "5"}), api.ErrForm}, "32 references, and what is not there": {both(refers(20, 32, 52), objects{3: "<</Contents[20 0 R]>>"}), api.ErrDeep},
		"data that are too short": {objects{4: "<</Length 99999>>stream\nq Q\nendstream"}, api.ErrMore}, "a length that is not there": {objects{3: "<</Contents[4 0 R]>>", 4: "<</Length 52 0 R>>stream\nq Q\nendstream"}, api.ErrForm}, "data that can't be decoded": {objects{4: stream("zz", "/Filter/FlateDecode")}, api.ErrForm}, "a filter that is not known": {objects{4: stream("q Q", "/Filter/JPXDecode")}, api.ErrKind}, "a sum that does not hold": {objects{4: stream("x\x9c\x03\x00\x00\x00\x00\x02", "/Filter/FlateDecode")}, api.ErrSum}, "data that are too long": {objects{4: stream(strings.Repeat(" ", api.MaxBytes+1), "")}, api.ErrLong},
		"operators that can't be parsed": {objects{4: stream("(", "")}, api.ErrForm}, "operands at the end": {objects{4: stream("1", "")}, api.ErrForm}, "operators that are too many": {objects{4: stream(long+"q", "")}, api.ErrLong}, "a number that is too long": {objects{4: stream("1000000000000000000 w", "")}, api.ErrOver}, "lists that are too deep": {objects{4: stream(strings.Repeat("[", 33), "")}, api.ErrDeep},
		// Resources.
		"resources that can't be read": {objects{5: "1000000000000000000"}, api.ErrOver}, "resources that are a list": {objects{5: "[]"}, api.ErrForm}, "resources from above that are a number": {objects{2: "<</Kids[3 0 R]/MediaBox[0 0 9 9]/Resources 7>>", 3: "<<>>"}, api.ErrForm}, "fonts that are a list": {objects{6: "[]"}, api.ErrForm}, "fonts that can't be read": {objects{6: "1000000000000000000"}, api.ErrOver}, "pictures that are a number": {objects{7: "7"}, api.ErrForm}, "pictures that can't be read": {objects{7: "1000000000000000000"}, api.ErrOver},
		// Marks.
		"operators that are not known": {objects{4: stream("1 1 m W n", "")}, api.ErrKind}, "operators out of place": {objects{4: stream("Q", "")}, api.ErrForm}, "a font that is not there": {objects{4: stream("/G 1 Tf", "")}, api.ErrNone}, "numbers that are too great": {objects{4: stream("999999999999999999 0 1 1 re f", "")}, api.ErrOver}, "states that are too many": {objects{4: stream(strings.Repeat("q ", 33), "")}, api.ErrDeep}, "marks that are too many for the interpreter": {objects{4: stream("/F 0 Tf BT ("+strings.Repeat("A", 65535)+") Tj (AA) Tj ET", "")}, api.ErrLong},
		"a picture that is not there": {objects{4: stream("/Y Do", "")}, api.ErrNone}, "a font in place of a picture": {objects{4: stream("/F Do", "")}, api.ErrNone}, "marks that are too many for a page": {objects{4: stream("/F 0 Tf BT ("+strings.Repeat("A", 4097)+") Tj ET", "")}, api.ErrKind}, "marks that are too many, and a picture that is not there": {objects{4: stream("/F 0 Tf BT ("+strings.Repeat("A", 4097)+") Tj ET /Y Do", "")}, api.ErrNone},
		"a font without a name": {objects{6: "<</F 8 0 R/ 8 0 R>>"}, api.ErrKind}, "a picture without a name": {objects{7: "<</X 9 0 R/ 9 0 R>>"}, api.ErrKind},
	} {
		load(t, name, c.changes, c.want)
	}
	load(t, "4096 marks, and one more", objects{4: stream("/F 0 Tf BT ("+strings.Repeat("A", 4096)+") Tj ET /X Do", "")}, api.ErrKind)
	if l, e := save.Load(pdf(with(objects{4: stream("/F 0 Tf BT ("+strings.Repeat("A", 4095)+") Tj ET /X Do", "")}))); len(l) != 1 || e != api.OK {
		t.Errorf("P25.3: 4096 marks: %d", e)
	}
}

func TestLoadRefusesFonts(t *testing.T) {
	good := "/Subtype/Type1/FirstChar 65/Widths[500]"
	for font, want := range map[string]api.Errno{
		"[]": api.ErrForm, "null": api.ErrForm, "52 0 R": api.ErrForm, "50 0 R": api.ErrOver, "51 0 R": api.ErrDeep, "<<>>": api.ErrForm, "<</Subtype/Type3>>": api.ErrKind, "<</Subtype/Type1>>": api.ErrForm, "<</Subtype 52 0 R/FirstChar 65/Widths[500]>>": api.ErrForm, "<</Subtype/Type1/FirstChar 65/Widths[500.5]>>": api.ErrForm, "<</Subtype/Type0/W[1 4097 1]>>": api.ErrLong,
		// Whatever the key is, what stands there is followed three deep.
		"<<" + good + "/A 50 0 R>>": api.ErrOver, "<<" + good + "/A[50 0 R]>>": api.ErrOver, "<<" + good + "/A<</B 50 0 R>>>>": api.ErrOver, "<<" + good + "/A[[50 0 R]]>>": api.ErrOver, "<<" + good + "/A<</B<</C 50 0 R>>>>>>": api.ErrOver, "<<" + good + "/A[<</C 51 0 R>>]>>": api.ErrDeep, "<<" + good + "/A[60 0 R]>>": api.ErrOver, "<<" + good + "/Z 61 0 R>>": api.ErrOver, "<<" + good + "/A[[[50 0 R]]]>>": api.OK, "<<" + good + "/A<</B[<</C 50 0 R>>]>>>>": api.OK, "<<" + good + "/A 62 0 R>>": api.OK,
		"<</Subtype/Type0/W 63 0 R>>": api.ErrForm, "<</A 50 0 R/B 51 0 R>>": api.ErrOver, "<</A 51 0 R/B 50 0 R>>": api.ErrDeep, "<</A[[50 0 R]51 0 R]>>": api.ErrOver, "<</A[51 0 R[50 0 R]]>>": api.ErrDeep, "<</Subtype/Type3/Z 50 0 R>>": api.ErrOver,
		// Maps.
		"<<" + good + "/ToUnicode null>>": api.ErrForm, "<<" + good + "/ToUnicode 52 0 R>>": api.ErrForm, "<<" + good + "/ToUnicode/Identity>>": api.ErrForm, "<<" + good + "/ToUnicode 50 0 R>>": api.ErrOver, "<<" + good + "/ToUnicode 51 0 R>>": api.ErrDeep, "<<" + good + "/ToUnicode 8 0 R>>": api.ErrForm, "<<" + good + "/ToUnicode 64 0 R>>": api.ErrForm, "<<" + good + "/ToUnicode 65 0 R>>": api.ErrKind, "<<" + good + "/ToUnicode 66 0 R>>": api.ErrOver, "<<" + good + "/ToUnicode 10 0 R>>": api.OK,
		"<</Subtype/Type0/ToUnicode 10 0 R>>": api.ErrForm, "<</Subtype/Type0/ToUnicode 67 0 R>>": api.OK, "<<" + good + "/ToUnicode 67 0 R>>": api.ErrForm, "<</Subtype 68 0 R/ToUnicode 67 0 R>>": api.OK,
		// The order: values, then the map, then the font.
		"<</ToUnicode 66 0 R/Z 51 0 R>>": api.ErrDeep, "<</ToUnicode 50 0 R/Z 51 0 R>>": api.ErrDeep, "<<" + good + "/ToUnicode 69 0 R>>": api.OK, "<</Subtype/Type3/ToUnicode 66 0 R>>": api.ErrOver, "<</ToUnicode 51 0 R>>": api.ErrDeep,
	} {
		b := pdf(with(objects{3: "<</Resources 5 0 R>>", 8: font, 60: "50 0 R", 61: "[[50 0 R]]", 62: "[[[50 0 R]]]", 63: "[[[5 0 R]]]", 64: stream("1 beginbfchar <41> <00> endbfchar", ""), 65: stream("", "/Filter/X"), 66: stream("1000000000000000000", ""), 67: stream("1 beginbfchar <0041> <0041> endbfchar", ""), 68: "/Type0", 69: stream("", "/A 50 0 R/B[51 0 R]")}))
		if l, e := save.Load(b); e != want || e == api.OK && len(l) != 1 || e != api.OK && l != nil {
			t.Errorf("P25.3: the font %s: %d, want %d", font, e, want)
		}
	}
	load(t, "fonts in the order of their names", objects{6: "<</B 50 0 R/A 51 0 R>>"}, api.ErrDeep)
	many := ""
	for i := range 65 {
		many += "/F" + strconv.Itoa(i) + " 8 0 R"
	}
	load(t, "65 fonts", objects{3: "<</Resources 5 0 R>>", 6: "<<" + many + ">>"}, api.ErrArg)
}

func TestLoadRefusesPictures(t *testing.T) {
	keys := func(change string) string {
		l := map[string]string{"Subtype": "/Image", "ColorSpace": "/DeviceGray", "Width": " 2", "Height": " 1", "BitsPerComponent": " 8"}
		for _, c := range strings.Fields(change) {
			key, value, _ := strings.Cut(c, "=")
			l[key] = " " + strings.ReplaceAll(value, "_", " ")
		}
		s := ""
		for key, value := range l {
			s += "/" + key + value
		}
		return s
	}
	for _, c := range []struct {
		change, data string
		want         api.Errno
	}{
		{"", "ab", api.OK}, {"", "a", api.ErrForm}, {"", "abc", api.ErrForm}, {"SMask=9_0_R", "ab", api.ErrKind}, {"Mask=[]", "ab", api.ErrKind}, {"Decode=[0_1]", "ab", api.ErrKind}, {"ImageMask=false", "ab", api.ErrKind}, {"SMask=null", "ab", api.ErrKind}, {"Mask=50_0_R", "ab", api.ErrKind}, {"SMaskInData=1", "ab", api.OK},
		{"Subtype=/Form", "ab", api.ErrKind}, {"Subtype=null", "ab", api.ErrKind}, {"Subtype=(Image)", "ab", api.ErrKind}, {"Subtype=50_0_R", "ab", api.ErrOver}, {"ColorSpace=/DeviceN", "ab", api.ErrKind}, {"ColorSpace=/CalGray", "ab", api.ErrKind}, {"ColorSpace=null", "ab", api.ErrKind}, {"ColorSpace=[/DeviceGray]", "ab", api.ErrKind}, {"ColorSpace=(DeviceGray)", "ab", api.ErrKind}, {"ColorSpace=51_0_R", "ab", api.ErrDeep}, {"ColorSpace=/DeviceRGB", "ab", api.ErrForm}, {"ColorSpace=/DeviceRGB", "abcdef", api.OK}, {"ColorSpace=/DeviceCMYK", "abcdefgh", api.OK},
		{"Width=null", "ab", api.ErrForm}, {"Width=2.5", "ab", api.ErrForm}, {"Width=0.2", "ab", api.ErrForm}, {"Height=0.1", "ab", api.ErrForm}, {"BitsPerComponent=0.8", "ab", api.ErrForm}, {"Width=-2", "ab", api.ErrForm}, {"Width=0", "", api.ErrForm}, {"Width=/A", "ab", api.ErrForm}, {"Width=50_0_R", "ab", api.ErrOver}, {"Width=52_0_R", "ab", api.ErrForm}, {"Width=65537", strings.Repeat("a", 65537), api.ErrForm}, {"Width=65536", strings.Repeat("a", 65536), api.OK}, {"Width=(2)", "ab", api.ErrForm}, {"Width=true", "ab", api.ErrForm},
		{"Height=null", "ab", api.ErrForm}, {"Height=0.5", "ab", api.ErrForm}, {"Height=51_0_R", "ab", api.ErrDeep}, {"Height=2", "abcd", api.OK}, {"BitsPerComponent=3", "ab", api.ErrForm}, {"BitsPerComponent=8.5", "ab", api.ErrForm}, {"BitsPerComponent=null", "ab", api.ErrForm}, {"BitsPerComponent=51_0_R", "ab", api.ErrDeep}, {"BitsPerComponent=1", "a", api.OK}, {"BitsPerComponent=16", "abcd", api.OK},
		// The order of errors.
		{"Decode=1 Subtype=50_0_R", "ab", api.ErrKind}, {"Subtype=50_0_R ColorSpace=51_0_R", "ab", api.ErrOver}, {"ColorSpace=50_0_R Width=51_0_R", "ab", api.ErrOver}, {"Width=51_0_R Height=50_0_R", "ab", api.ErrDeep}, {"Height=50_0_R BitsPerComponent=51_0_R", "ab", api.ErrOver}, {"Subtype=/Form BitsPerComponent=51_0_R", "ab", api.ErrDeep}, {"Subtype=/Form Filter=50_0_R", "ab", api.ErrKind}, {"ColorSpace=/X Filter=50_0_R", "ab", api.ErrKind}, {"Width=null Filter=50_0_R", "ab", api.ErrOver}, {"Filter=/X", "ab", api.ErrKind}, {"Filter=/FlateDecode", "a", api.ErrMore}, {"Width=null Filter=/FlateDecode", "a", api.ErrMore},
	} {
		b := pdf(with(objects{3: "<</Resources 5 0 R>>", 9: stream(c.data, keys(c.change))}))
		if l, e := save.Load(b); e != c.want || e == api.OK && len(l) != 1 || e != api.OK && l != nil {
			t.Errorf("P25.3: a picture with %q and %d bytes: %d, want %d", c.change, len(c.data), e, c.want)
		}
	}
	for value, want := range map[string]api.Errno{"null": api.ErrForm, "52 0 R": api.ErrForm, "50 0 R": api.ErrOver, "51 0 R": api.ErrDeep, "<<" + imageKeys + ">>": api.ErrForm, "20 0 R": api.ErrForm, "5": api.ErrForm} {
		load(t, "the picture "+value, objects{7: "<</X " + value + ">>", 20: "<<" + imageKeys + ">>"}, want)
	}
	load(t, "pictures in the order of their names", objects{7: "<</Y 50 0 R/X 51 0 R>>"}, api.ErrDeep)
	load(t, "the third of three", objects{7: "<</A 9 0 R/B 9 0 R/X 50 0 R>>"}, api.ErrOver)
	many := ""
	for i := range 1025 {
		many += "/A" + strconv.Itoa(i) + " 9 0 R"
	}
	load(t, "1025 pictures", objects{3: "<</Resources 5 0 R>>", 7: "<<" + many + ">>"}, api.ErrKind)
	if l, e := save.Load(pdf(with(objects{3: "<</Resources 5 0 R>>", 7: "<<" + many[:len(many)-len("/A1024 9 0 R")] + ">>"}))); len(l) != 1 || len(l[0].Pictures) != 1024 || e != api.OK {
		t.Errorf("P25.3: 1024 pictures: %d", e)
	}
}

// Each step of a page has an error of its own that comes ahead of those of later steps.
func TestStepsOfAPage(t *testing.T) {
	steps := []struct {
		id   int
		bad  string
		want api.Errno
	}{
		{2, "<</Kids[3 0 R]/MediaBox[0 0 9 51 0 R]>>", api.ErrDeep}, {4, stream("x", "/Filter/X"), api.ErrKind}, {5, "1000000000000000000", api.ErrOver}, {6, "[]", api.ErrForm}, {8, "<</Subtype/Type3>>", api.ErrKind}, {7, "51 0 R", api.ErrDeep}, {9, stream("ab", imageKeys+"/SMask 1"), api.ErrKind},
	}
	for i, first := range steps {
		for _, second := range steps[i:] {
			load(t, first.bad+" and "+second.bad, objects{first.id: first.bad, second.id: second.bad}, first.want)
		}
		if i == 1 {
			continue
		}
		want := first.want
		if i == 0 {
			want = api.ErrDeep
		}
		// Operators that can't be parsed come ahead of resources, and those that can't be executed come last.
		if first.id != 2 {
			load(t, first.bad+" and operators that can't be parsed", objects{first.id: first.bad, 4: stream(strings.Repeat("[", 33), "")}, api.ErrDeep)
		}
		load(t, first.bad+" and operators that are not known", objects{first.id: first.bad, 4: stream("/G 1 Tf", "")}, want)
	}
}

// Whatever the bytes are, there is an answer; what is loaded is valid, and stays the same once it is saved.
func TestAnyFile(t *testing.T) {
	r := rand.New(rand.NewSource(252))
	b := pdf(good())
	loaded := 0
	for range 4000 {
		c := slices.Clone(b)
		for range 1 + r.Intn(2) {
			at := r.Intn(len(c))
			switch r.Intn(4) {
			case 0:
				c[at] = "0123456789 /<>[]()R"[r.Intn(19)]
			case 1:
				c[at] ^= byte(1 << r.Intn(8))
			case 2:
				c = slices.Delete(c, at, at+1)
			default:
				c = slices.Insert(c, at, "0 /<>["[r.Intn(6)])
			}
		}
		l, e := save.Load(c)
		if e != api.OK {
			if l != nil {
				t.Fatalf("R1: %q: %d pages, %d", c, len(l), e)
			}
			continue
		}
		loaded++
		if e := save.Check(l); e != api.OK {
			t.Fatalf("P25.4: %q: %d", c, e)
		}
		first, back := saved(t, l)
		if second, _ := saved(t, back); string(first) != string(second) {
			t.Fatalf("P25.4: %q: saved as %q, and then as %q", c, first, second)
		}
	}
	if loaded < 100 {
		t.Errorf("only %d files were loaded", loaded)
	}
}
