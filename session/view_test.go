package session_test

import (
	"math"
	"slices"
	"strconv"
	"strings"
	"testing"

	"erasure/api"
	"erasure/save"
	"erasure/session"
)

// want is a page of which only some things are told: its marks, its fonts by their codes, and its pictures by their data.
type want struct {
	marks    []string
	fonts    []string
	pictures []string
}

func short(p api.Page) want {
	var w want
	for _, m := range p.Marks {
		s := []string{"", "glyph ", "path ", "image "}[m.Kind] + m.Name
		if m.Kind == api.MarkGlyph {
			s += " " + string(rune(m.Code))
		} else if m.Name == "" {
			s += strings.ReplaceAll(printed(m.Ops), "\\n", " ")
		}
		w.marks = append(w.marks, s)
	}
	for _, f := range p.Fonts {
		s := f.Name
		for _, g := range f.Font.Glyphs {
			s += " " + string(rune(g.Code)) + strconv.Itoa(g.Width)
		}
		if f.Font.Other != 0 {
			s += " others"
		}
		w.fonts = append(w.fonts, s)
	}
	for _, x := range p.Pictures {
		w.pictures = append(w.pictures, x.Name+" "+strings.ReplaceAll(string(x.Image.Data), "\x00", "."))
	}
	return w
}

func same(a, b want) bool {
	return slices.Equal(a.marks, b.marks) && slices.Equal(a.fonts, b.fonts) && slices.Equal(a.pictures, b.pictures)
}

func TestView(t *testing.T) {
	cover := "path \"5 5 1 1 re f \""
	for _, c := range []struct {
		name     string
		contents string
		boxes    []api.Box
		covers   bool
		want     want
	}{
		{"nothing", "", nil, false, want{}}, {"nothing, with covers", "", nil, true, want{}}, {"a cover alone", "", []api.Box{area(5, 5, 6, 6)}, true, want{marks: []string{cover}}}, {"no cover", "", []api.Box{area(5, 5, 6, 6)}, false, want{}},
		// Glyphs, and fonts by their first use, with what is used of them.
		{"all is left", "BT /F 1 Tf (AB) Tj ET", nil, false, want{marks: []string{"glyph F0001 A", "glyph F0001 B"}, fonts: []string{"F0001 A1000 B1000"}}}, {"a glyph", "BT /F 1 Tf (ABC) Tj ET", []api.Box{{X0: api.Dec{M: 15, S: 1}, X1: api.Dec{M: 15, S: 1}}}, false, want{marks: []string{"glyph F0001 A", "glyph F0001 C"}, fonts: []string{"F0001 A1000 C1000"}}}, {"a glyph that touches two others", "BT /F 1 Tf (ABCD) Tj ET", []api.Box{area(1, 0, 2, 0)}, false, want{marks: []string{"glyph F0001 D"}, fonts: []string{"F0001 D1000"}}},
		{"all glyphs", "BT /F 1 Tf (ABC) Tj ET", []api.Box{area(0, 0, 9, 9)}, false, want{}}, {"fonts by their first use", "BT /W 1 Tf (\\000A) Tj /G 1 Tf (CA) Tj /F 1 Tf (E) Tj /G 1 Tf (B) Tj ET", nil, false, want{marks: []string{"glyph F0001 A", "glyph F0002 C", "glyph F0002 A", "glyph F0003 E", "glyph F0002 B"}, fonts: []string{"F0001 A1000", "F0002 A1000 B1000 C1000", "F0003 E1000"}}},
		{"the first use of what is left", "BT /F 1 Tf (A) Tj /G 1 Tf 5 0 Td (B) Tj 5 0 Td /F 1 Tf (C) Tj ET", []api.Box{area(0, 0, 1, 1)}, false, want{marks: []string{"glyph F0001 B", "glyph F0002 C"}, fonts: []string{"F0001 B1000", "F0002 C1000"}}}, {"codes of the others", "BT /W 1 Tf (\\000A\\000Z) Tj ET", nil, false, want{marks: []string{"glyph F0001 A", "glyph F0001 Z"}, fonts: []string{"F0001 A1000 Z500"}}}, {"codes without a glyph", "BT /F 1 Tf (AZ) Tj ET", nil, false, want{marks: []string{"glyph F0001 A", "glyph F0001 Z"}, fonts: []string{"F0001 A1000"}}},
		// Paths, and images that are not named.
		{"paths and images", "1 1 m 2 2 l S 5 5 1 1 re f q 9 0 0 9 20 20 cm BI ID x EI Q", []api.Box{area(0, 0, 1, 1), area(29, 29, 30, 30)}, false, want{marks: []string{cover}}}, {"paths and images that are left", "1 1 m 2 2 l S 5 5 1 1 re f q 9 0 0 9 20 20 cm BI ID x EI Q", []api.Box{area(3, 3, 4, 4)}, false, want{marks: []string{"path \"1 1 m 2 2 l S \"", cover, "image \"BI ID x EI \""}}},
		{"covers come last, in their order", "1 1 m 2 2 l S", []api.Box{area(5, 5, 6, 6), area(3, 3, 4, 4), area(5, 5, 6, 6)}, true, want{marks: []string{"path \"1 1 m 2 2 l S \"", cover, "path \"3 3 1 1 re f \"", cover}}},
		// Images with names: each has a picture of its own.
		{"an image", "2 0 0 2 0 0 cm /P Do", nil, false, want{marks: []string{"image I0001"}, pictures: []string{"I0001 abcd"}}}, {"a part of an image", "2 0 0 2 0 0 cm /P Do", []api.Box{{X1: api.Dec{M: 5, S: 1}, Y1: api.Dec{M: 5, S: 1}}}, false, want{marks: []string{"image I0001"}, pictures: []string{"I0001 ab.d"}}}, {"an image without what is left", "2 0 0 2 0 0 cm /P Do", []api.Box{area(0, 0, 2, 2)}, true, want{marks: []string{"image I0001", "path \"0 0 2 2 re f \""}, pictures: []string{"I0001 ...."}}}, {"two regions of an image", "2 0 0 2 0 0 cm /P Do", []api.Box{{X1: api.Dec{M: 5, S: 1}, Y1: api.Dec{M: 5, S: 1}}, {X0: api.Dec{M: 15, S: 1}, Y0: api.Dec{M: 15, S: 1}, X1: number(9), Y1: number(9)}}, false, want{marks: []string{"image I0001"}, pictures: []string{"I0001 a..d"}}},
		{"the same picture twice", "q 2 0 0 2 0 0 cm /P Do Q q 2 0 0 2 10 10 cm /P Do Q", []api.Box{{X0: number(10), Y0: number(10), X1: api.Dec{M: 105, S: 1}, Y1: api.Dec{M: 105, S: 1}}}, false, want{marks: []string{"image I0001", "image I0002"}, pictures: []string{"I0001 abcd", "I0002 ab.d"}}}, {"pictures in the order of the marks", "q 3 0 0 3 0 0 cm /Q Do Q 1 1 m S 2 0 0 2 10 10 cm /P Do", []api.Box{{X0: api.Dec{M: 15, S: 1}, Y0: number(2), X1: api.Dec{M: 15, S: 1}, Y1: number(2)}}, false, want{marks: []string{"image I0001", "path \"1 1 m S \"", "image I0002"}, pictures: []string{"I0001 abc...ghi", "I0002 abcd"}}},
		{"names among fonts", "BT /F 1 Tf (A) Tj ET 1 0 0 1 50 50 cm /P Do", nil, false, want{marks: []string{"glyph F0001 A", "image I0001"}, fonts: []string{"F0001 A1000"}, pictures: []string{"I0001 abcd"}}},
	} {
		p := page(t, c.contents)
		var regions []api.Region
		for _, b := range c.boxes {
			regions = append(regions, api.Region{Box: b})
		}
		l, e := session.View([]api.Page{p}, regions, c.covers)
		if len(l) != 1 || e != api.OK {
			t.Errorf("P26.1: %s: %d pages, %d", c.name, len(l), e)
			continue
		}
		if got := short(l[0]); !same(got, c.want) || l[0].Box != p.Box {
			t.Errorf("P26.1: %s: %q, want %q", c.name, got, c.want)
		}
		if e := save.Check(l); e != api.OK {
			t.Errorf("P25.4: %s: %d", c.name, e)
		}
	}
}

// What a mark has but its name stays as it is.
func TestViewKeepsMarks(t *testing.T) {
	p := page(t, "1 w 2 Tr 0.5 0 0 3 1 1 cm BT /F 7 Tf 1 Ts (AB) Tj /W 1 Tf (\\000A) Tj ET [ 1 ] 0 d 1 1 m 2 9 l b /P Do BI /W 1 ID x EI")
	l, e := session.View([]api.Page{p}, []api.Region{region(0, 90, 90, 99, 99)}, false)
	if e != api.OK || len(l[0].Marks) != len(p.Marks) {
		t.Fatalf("P26.1: %d", e)
	}
	names := map[string]string{"F": "F0001", "W": "F0002", "P": "I0001", "": ""}
	for i, m := range p.Marks {
		m.Name = names[m.Name]
		p.Marks[i] = m
	}
	p.Fonts, p.Pictures = l[0].Fonts, l[0].Pictures
	if got, want := told(l), told([]api.Page{p}); got != want {
		t.Errorf("P26.1: %s\nwant\n%s", got, want)
	}
}

// Each page has regions of its own.
func TestViewOfSeveralPages(t *testing.T) {
	p := page(t, "BT /F 1 Tf (ABC) Tj ET")
	var pages []api.Page
	var regions []api.Region
	for i := range 60 {
		pages = append(pages, p)
		if i%4 > 0 {
			x := api.Dec{M: 10*(i%4) - 5, S: 1}
			regions = append([]api.Region{{Page: i, Box: api.Box{X0: x, X1: x}}}, regions...)
		}
	}
	for range 5 {
		l, e := session.View(pages, regions, false)
		if len(l) != 60 || e != api.OK {
			t.Fatalf("P26.1: %d pages, %d", len(l), e)
		}
		for i, p := range l {
			left := []string{"ABC", "BC", "AC", "AB"}[i%4]
			got := ""
			for _, m := range p.Marks {
				got += string(rune(m.Code))
			}
			if got != left {
				t.Errorf("P26.1: page %d: %s, want %s", i, got, left)
			}
		}
	}
}

func TestViewRefuses(t *testing.T) {
	good := page(t, "BT /F 1 Tf (A) Tj ET")
	// A picture of which what is covered can't be told, since its width times two is not representable.
	wide := page(t, "0.000000001 0 0 1 500000000 0 cm /P Do")
	long := api.Region{Box: api.Box{X0: number(-500000000000000000), X1: number(500000000000000000)}}
	on := func(page int, r api.Region) api.Region { r.Page = page; return r }
	bad := page(t, "")
	bad.Box = area(1, 0, 0, 0)
	full := api.Page{Marks: slices.Repeat(marks(t, "50 50 m S", nil), 4096)}
	many := slices.Repeat([]api.Region{region(0, 0, 0, 1, 1)}, 65)
	wrong := []api.Region{region(-1, 0, 0, 1, 1), region(1, 0, 0, 1, 1), region(0, 1, 0, 0, 0), region(0, 0, 1, 0, 0), region(math.MaxInt, 0, 0, 1, 1), region(math.MinInt, 0, 0, 1, 1), {Box: api.Box{X0: api.Dec{S: 1}}}}
	for _, c := range []struct {
		name    string
		l       []api.Page
		regions []api.Region
		covers  bool
		want    api.Errno
	}{
		{"a page that is not valid", []api.Page{good, bad}, nil, false, api.ErrArg}, {"257 pages", make([]api.Page, 257), many, false, api.ErrLong}, {"a page that is not valid, and 65 regions", []api.Page{bad}, many, false, api.ErrArg}, {"64 regions", []api.Page{good}, many[1:], false, api.OK}, {"64 regions and covers", []api.Page{good}, many[1:], true, api.OK}, {"65 regions", []api.Page{good}, many, false, api.ErrLong}, {"65 regions of no page", nil, many, false, api.ErrLong}, {"a region of no page", nil, many[:1], false, api.ErrArg}, {"nothing", nil, nil, true, api.OK},
		{"65 regions that are not valid", []api.Page{good}, slices.Repeat(wrong[:1], 65), false, api.ErrLong}, {"an image that can't be told", []api.Page{good, wide}, nil, false, api.ErrOver}, {"a region that is not valid, and an image that can't be told", []api.Page{wide}, wrong[:1], false, api.ErrArg},
		{"a region that is too long for an image", []api.Page{page(t, "/P Do")}, []api.Region{long}, false, api.ErrOver}, {"the same without images", []api.Page{good}, []api.Region{long}, false, api.OK}, {"a cover that is too long", []api.Page{good}, []api.Region{long}, true, api.ErrOver}, {"a cover that is too long, on another page", []api.Page{good, {}, good}, []api.Region{on(1, long)}, true, api.ErrOver}, {"a long region on another page than the image", []api.Page{page(t, "/P Do"), good}, []api.Region{on(1, long)}, false, api.OK},
		{"4096 marks", []api.Page{full}, nil, true, api.OK}, {"4096 marks, and a region without a cover", []api.Page{full}, []api.Region{region(0, 0, 0, 1, 1)}, false, api.OK}, {"4096 marks and a cover", []api.Page{full}, []api.Region{region(0, 0, 0, 1, 1)}, true, api.ErrArg}, {"4096 marks, a cover, and an image that can't be told on a later page", []api.Page{full, wide}, []api.Region{region(0, 0, 0, 1, 1)}, true, api.ErrOver}, {"4096 marks of which none is left, and a cover", []api.Page{full}, []api.Region{region(0, 50, 50, 51, 51)}, true, api.OK},
	} {
		l, e := session.View(c.l, c.regions, c.covers)
		if e != c.want || e != api.OK && l != nil || e == api.OK && len(l) != len(c.l) {
			t.Errorf("P26.1: %s: %d pages, %d, want %d", c.name, len(l), e, c.want)
		}
	}
	for _, r := range wrong {
		for _, l := range [][]api.Region{{r}, {many[0], r}, {r, many[0]}} {
			if p, e := session.View([]api.Page{good}, l, false); p != nil || e != api.ErrArg {
				t.Errorf("P26.1: %v: %d pages, %d", l, len(p), e)
			}
		}
	}
}

func TestPicturesAreLimited(t *testing.T) {
	dot := page(t, "/P Do").Marks[0]
	over := page(t, "0.000000001 0 0 1 500000000 0 cm /P Do").Marks[0]
	p := page(t, "")
	build := func(n int, more ...api.Mark) []api.Page {
		out := p
		out.Marks = append(slices.Repeat([]api.Mark{dot}, n), more...)
		return []api.Page{out}
	}
	for _, c := range []struct {
		name string
		l    []api.Page
		want api.Errno
	}{
		{"1024", build(1024), api.OK}, {"1025", build(1025), api.ErrLong}, {"1024 and other marks", build(1024, marks(t, "1 1 m S BI ID x EI", nil)...), api.OK}, {"1025 and one that can't be told", build(1025, over), api.ErrLong}, {"1023 and one that can't be told", build(1023, over, dot, dot), api.ErrOver}, {"1025 on the second of three pages", append(append(build(5), build(1025)...), build(1, over)...), api.ErrLong}, {"one that can't be told on the first of two pages", append(build(5, over), build(1025)...), api.ErrOver},
	} {
		l, e := session.View(c.l, nil, false)
		if e != c.want || e != api.OK && l != nil {
			t.Errorf("P26.1: %s: %d, want %d", c.name, e, c.want)
		}
		if e == api.OK && (len(l[0].Pictures) != 1024 || l[0].Pictures[1023].Name != "I1024" || l[0].Pictures[99].Name != "I0100" || l[0].Marks[1023].Name != "I1024") {
			t.Errorf("P26.1: %s: %d pictures", c.name, len(l[0].Pictures))
		}
	}
	many := api.Page{}
	contents := ""
	for i := range 64 {
		name := "X" + strconv.Itoa(100+i)
		many.Fonts = append(many.Fonts, api.Named{Name: name, Font: letters("A")})
		contents = "BT /" + name + " 1 Tf (A) Tj ET " + contents
	}
	many.Marks = marks(t, contents, many.Fonts)
	l, e := session.View([]api.Page{many}, nil, false)
	if e != api.OK || len(l[0].Fonts) != 64 || l[0].Fonts[63].Name != "F0064" || l[0].Marks[0].Name != "F0001" || l[0].Fonts[9].Name != "F0010" {
		t.Errorf("P26.1: 64 fonts: %d", e)
	}
}
