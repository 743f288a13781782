package session_test

import (
	"fmt"
	"strconv"
	"testing"

	"erasure/api"
	"erasure/ops"
	"erasure/save"
	"erasure/session"
	"erasure/view"
)

func number(m int) api.Dec { return api.Dec{M: m} }

func area(x0, y0, x1, y1 int) api.Box {
	return api.Box{X0: number(x0), Y0: number(y0), X1: number(x1), Y1: number(y1)}
}

func region(page, x0, y0, x1, y1 int) api.Region {
	return api.Region{Page: page, Box: area(x0, y0, x1, y1)}
}

func marks(t *testing.T, s string, fonts []api.Named) []api.Mark {
	t.Helper()
	l, e := ops.Parse([]byte(s))
	if e != api.OK {
		t.Fatalf("P20.1: %q: %d", s, e)
	}
	m, e := view.See(l, fonts)
	if e != api.OK {
		t.Fatalf("P21.1: %q: %d", s, e)
	}
	return m
}

func picture(name string, width, height, bits, comps int, data string) api.Picture {
	return api.Picture{Name: name, Image: api.Image{Width: width, Height: height, Bits: bits, Comps: comps, Data: []byte(data)}}
}

// letters has a glyph for each of some letters, one wide, which mean themselves.
func letters(s string) api.Font {
	var f api.Font
	for i := range len(s) {
		f.Glyphs = append(f.Glyphs, api.Glyph{Code: int(s[i]), Width: 1000, Text: "\x00" + s[i:i+1]})
	}
	return f
}

// page returns a page with the fonts F and G of A to E, W that is wide, and the pictures P of 2 by 2 and Q of 3 by 1 pixels.
func page(t *testing.T, contents string) api.Page {
	t.Helper()
	p := api.Page{Box: area(0, 0, 100, 100)}
	p.Fonts = []api.Named{{Name: "F", Font: letters("ABCDE")}, {Name: "G", Font: letters("ABCDE")}, {Name: "W", Font: api.Font{Wide: true, Other: 500, Glyphs: []api.Glyph{{Code: 65, Width: 1000, Text: "\x00A"}}}}}
	p.Pictures = []api.Picture{picture("P", 2, 2, 8, 1, "abcd"), picture("Q", 3, 1, 8, 3, "abcdefghi")}
	p.Marks = marks(t, contents, p.Fonts)
	return p
}

// told returns all of some pages as a text, in which lists that are nil and lists that are empty are the same.
func told(l []api.Page) string {
	s := ""
	for i, p := range l {
		s += fmt.Sprintf("page %d %v\n", i, p.Box)
		for _, f := range p.Fonts {
			s += fmt.Sprintf("  font %q %v %d %q\n", f.Name, f.Font.Wide, f.Font.Other, fmt.Sprint(f.Font.Glyphs))
		}
		for _, x := range p.Pictures {
			s += fmt.Sprintf("  picture %q %d %d %d %d %q\n", x.Name, x.Image.Width, x.Image.Height, x.Image.Bits, x.Image.Comps, x.Image.Data)
		}
		for _, m := range p.Marks {
			s += fmt.Sprintf("  mark %d %v %q %d %v %s | %s\n", m.Kind, m.M, m.Name, m.Code, m.Box, printed(m.State), printed(m.Ops))
		}
	}
	return s
}

func printed(l []api.Op) string {
	s, e := ops.Print(l)
	if e != api.OK {
		return fmt.Sprint(l)
	}
	return strconv.Quote(s)
}

// open returns a session of pages that are saved and loaded.
func open(t *testing.T, l ...api.Page) *session.Session {
	t.Helper()
	b, e := save.Save(l)
	if e != api.OK {
		t.Fatalf("P25.2: %s: %d", told(l), e)
	}
	s, e := session.Open(b)
	if s == nil || e != api.OK {
		t.Fatalf("P26.2: %d", e)
	}
	return s
}
