package session_test

import (
	"bytes"
	"fmt"
	"math"
	"math/rand"
	"slices"
	"strconv"
	"strings"
	"testing"

	"erasure/api"
	"erasure/box"
	"erasure/cut"
	"erasure/save"
	"erasure/session"
)

func TestNil(t *testing.T) {
	var s *session.Session
	if l := s.Regions(); len(l) != 0 {
		t.Errorf("P26.2: Regions: %v", l)
	}
	n, e := s.MarkText("")
	text, f := s.Text(-1)
	pages, g := s.Apply(true)
	b, h := s.Save(false)
	for name, e := range map[string]api.Errno{"Mark": s.Mark(api.Region{Page: -1}), "Unmark": s.Unmark(-1), "MarkText": e, "Text": f, "Apply": g, "Save": h} {
		if e != api.ErrNil {
			t.Errorf("P26.2: %s: %d", name, e)
		}
	}
	if n != 0 || text != "" || pages != nil || b != nil {
		t.Errorf("P26.2: %d, %q, %v, %v", n, text, pages, b)
	}
}

func TestOpen(t *testing.T) {
	for _, b := range [][]byte{nil, []byte("%PDF-1.4"), []byte("x")} {
		if s, e := session.Open(b); s != nil || e != api.ErrForm {
			t.Errorf("P26.2: %q: %v, %d", b, s, e)
		}
	}
	if s, e := session.Open(make([]byte, api.MaxFile+1)); s != nil || e != api.ErrLong {
		t.Errorf("P26.2: %v, %d", s, e)
	}
	p := page(t, "BT /F 1 Tf (AB) Tj ET")
	b, _ := save.Save([]api.Page{p, {}})
	kept := slices.Clone(b)
	s, e := session.Open(b)
	if e != api.OK || len(s.Regions()) != 0 || !bytes.Equal(b, kept) {
		t.Fatalf("P26.2: %v, %d", s.Regions(), e)
	}
	clear(b)
	l, e := s.Apply(false)
	want, _ := session.View([]api.Page{p, {}}, nil, false)
	if told(l) != told(want) || e != api.OK {
		t.Errorf("P26.2: %s, %d, want %s", told(l), e, told(want))
	}
}

func TestMarkAndUnmark(t *testing.T) {
	s := open(t, page(t, ""), page(t, ""))
	for _, r := range []api.Region{region(-1, 0, 0, 1, 1), region(2, 0, 0, 1, 1), region(math.MaxInt, 0, 0, 1, 1), region(math.MinInt, 0, 0, 1, 1), region(0, 1, 0, 0, 0), region(1, 0, 1, 0, 0), {Box: api.Box{X1: api.Dec{M: 10, S: 1}}}} {
		if e := s.Mark(r); e != api.ErrArg || len(s.Regions()) != 0 {
			t.Errorf("P26.2: %v: %d, %v", r, e, s.Regions())
		}
	}
	var want []api.Region
	for i := range 64 {
		r := region(i%2, i, i, i+i%3, i)
		if e := s.Mark(r); e != api.OK {
			t.Fatalf("P26.2: %d: %d", i, e)
		}
		want = append(want, r)
		if got := s.Regions(); !slices.Equal(got, want) {
			t.Fatalf("P26.2: %v, want %v", got, want)
		}
	}
	for _, r := range []api.Region{region(0, 0, 0, 1, 1), region(-1, 1, 0, 0, 0)} {
		if e := s.Mark(r); e != api.ErrLong || !slices.Equal(s.Regions(), want) {
			t.Errorf("P26.2: the 65th region: %d", e)
		}
	}
	for _, k := range []int{-1, 64, math.MaxInt, math.MinInt} {
		if e := s.Unmark(k); e != api.ErrArg || !slices.Equal(s.Regions(), want) {
			t.Errorf("P26.2: Unmark(%d): %d", k, e)
		}
	}
	for _, k := range []int{63, 0, 5, 5, 30, 58} {
		before := s.Regions()
		if e := s.Unmark(k); e != api.OK {
			t.Errorf("P26.2: Unmark(%d): %d", k, e)
		}
		want = append(slices.Clone(want[:k]), want[k+1:]...)
		if got := s.Regions(); !slices.Equal(got, want) || len(before) != len(want)+1 {
			t.Fatalf("P26.2: Unmark(%d): %v, want %v", k, got, want)
		}
	}
	if e := s.Mark(region(1, 7, 7, 7, 7)); e != api.OK || s.Regions()[58] != region(1, 7, 7, 7, 7) {
		t.Errorf("P26.2: %d", e)
	}
	for len(s.Regions()) > 0 {
		s.Unmark(0)
	}
	if e := s.Unmark(0); e != api.ErrArg {
		t.Errorf("P26.2: Unmark of nothing: %d", e)
	}
	// What is handed out is a copy.
	s.Mark(region(0, 1, 1, 2, 2))
	clear(s.Regions())
	_ = append(s.Regions(), region(1, 9, 9, 9, 9))
	if got := s.Regions(); !slices.Equal(got, []api.Region{region(0, 1, 1, 2, 2)}) {
		t.Errorf("R2: %v", got)
	}
}

func TestMarkText(t *testing.T) {
	first, second := page(t, "BT /F 1 Tf (ABAB) Tj ET"), page(t, "BT /F 1 Tf 5 5 Td (BAC) Tj ET")
	for _, c := range []struct {
		text string
		want []api.Region
	}{
		{"A", []api.Region{{Page: 0, Box: glyphBox(0, 1, 0)}, {Page: 0, Box: glyphBox(2, 3, 0)}, {Page: 1, Box: glyphBox(6, 7, 5)}}}, {"AB", []api.Region{{Page: 0, Box: glyphBox(0, 2, 0)}, {Page: 0, Box: glyphBox(2, 4, 0)}}}, {"BA", []api.Region{{Page: 0, Box: glyphBox(1, 3, 0)}, {Page: 1, Box: glyphBox(5, 7, 5)}}}, {"C", []api.Region{{Page: 1, Box: glyphBox(7, 8, 5)}}}, {"X", nil}, {"ABABB", nil},
	} {
		s := open(t, first, second)
		s.Mark(region(1, 50, 50, 51, 51))
		n, e := s.MarkText(c.text)
		if got := s.Regions(); n != len(c.want) || e != api.OK || !slices.Equal(got, append([]api.Region{region(1, 50, 50, 51, 51)}, c.want...)) {
			t.Errorf("P26.3: %q: %d, %d, %v, want %v", c.text, n, e, got, c.want)
		}
	}
	s := open(t, first, second)
	if n, e := s.MarkText(""); n != 0 || e != api.ErrArg || len(s.Regions()) != 0 {
		t.Errorf("P26.3: no text: %d, %d", n, e)
	}
	if n, e := open(t).MarkText(""); n != 0 || e != api.OK {
		t.Errorf("P26.3: no text, and no page: %d, %d", n, e)
	}
}

// glyphBox returns the box of glyphs of size 1 on a line.
func glyphBox(from, to, line int) api.Box {
	return api.Box{X0: number(from), Y0: api.Dec{M: 10*line - 3, S: 1}, X1: number(to), Y1: number(line + 1)}
}

func TestMarkTextIsLimited(t *testing.T) {
	p := page(t, "BT /F 1 Tf ("+strings.Repeat("A", 32)+"BBB) Tj ET")
	for _, c := range []struct {
		before int
		text   string
		want   int
		e      api.Errno
	}{{0, "A", 64, api.OK}, {1, "A", 0, api.ErrLong}, {58, "B", 6, api.OK}, {59, "B", 0, api.ErrLong}, {64, "B", 0, api.ErrLong}, {64, "C", 0, api.OK}, {32, "AA", 32, api.OK}, {33, "AA", 0, api.ErrLong}} {
		s := open(t, p, p)
		for range c.before {
			s.Mark(region(0, 0, 0, 1, 1))
		}
		n, e := s.MarkText(c.text)
		if n != c.want || e != c.e || len(s.Regions()) != c.before+c.want {
			t.Errorf("P26.3: %q behind %d regions: %d, %d, %d regions", c.text, c.before, n, e, len(s.Regions()))
		}
	}
	// Errors of any page come ahead of too many regions.
	bad := page(t, "")
	bad.Fonts = append(bad.Fonts[:2:2], api.Named{Name: "H", Font: api.Font{Glyphs: []api.Glyph{{Code: 65, Text: "\xd8\x00"}}}})
	bad.Marks = marks(t, "BT /H 1 Tf (A) Tj ET", bad.Fonts)
	s := open(t, p, p, p, bad)
	for range 10 {
		s.Mark(region(0, 0, 0, 1, 1))
	}
	if n, e := s.MarkText("A"); n != 0 || e != api.ErrForm || len(s.Regions()) != 10 {
		t.Errorf("P26.3: %d, %d, %d regions", n, e, len(s.Regions()))
	}
	for i, want := range []api.Errno{api.OK, api.OK, api.OK, api.ErrForm, api.ErrArg} {
		if text, e := s.Text(i); e != want || (text == "") != (e != api.OK) {
			t.Errorf("P26.3: page %d: %q, %d, want %d", i, text, e, want)
		}
	}
}

func TestText(t *testing.T) {
	s := open(t, page(t, "BT /F 1 Tf (ABA) Tj ET"), page(t, ""), page(t, "BT /W 1 Tf (\\000A\\000B) Tj /G 1 Tf (C) Tj ET"))
	for i, want := range []string{"ABA", "", "AC"} {
		if text, e := s.Text(i); text != want || e != api.OK {
			t.Errorf("P26.3: page %d: %q, %d, want %q", i, text, e, want)
		}
	}
	for _, i := range []int{-1, 3, math.MaxInt, math.MinInt} {
		if text, e := s.Text(i); text != "" || e != api.ErrArg {
			t.Errorf("P26.3: page %d: %q, %d", i, text, e)
		}
	}
	// Regions have no influence on it.
	s.MarkText("A")
	if text, e := s.Text(0); text != "ABA" || e != api.OK {
		t.Errorf("P26.3: %q, %d", text, e)
	}
}

func TestApplyAndSave(t *testing.T) {
	p := page(t, "BT /F 1 Tf (ABC) Tj ET 5 5 1 1 re f 2 0 0 2 20 20 cm /P Do")
	s := open(t, p, page(t, ""))
	s.MarkText("B")
	s.Mark(region(0, 20, 20, 20, 20))
	s.Mark(region(1, 1, 1, 2, 2))
	regions := s.Regions()
	for _, covers := range []bool{false, true, false} {
		l, e := s.Apply(covers)
		want, f := session.View([]api.Page{p, page(t, "")}, regions, covers)
		if told(l) != told(want) || e != api.OK || f != api.OK {
			t.Errorf("P26.4: %s, %d, want %s, %d", told(l), e, told(want), f)
		}
		b, e := s.Save(covers)
		file, f := save.Save(l)
		if !bytes.Equal(b, file) || e != api.OK || f != api.OK {
			t.Errorf("P26.4: %q, %d, want %q, %d", b, e, file, f)
		}
		// Pages that are changed change no later ones.
		for i := range l {
			for _, m := range l[i].Marks {
				clear(m.State)
				for _, o := range m.Ops {
					clear(o.Args)
				}
			}
			for _, x := range l[i].Pictures {
				clear(x.Image.Data)
			}
			for _, f := range l[i].Fonts {
				clear(f.Font.Glyphs)
			}
			clear(l[i].Marks)
			clear(l[i].Fonts)
			clear(l[i].Pictures)
		}
		clear(l)
		clear(b)
	}
	if !slices.Equal(s.Regions(), regions) {
		t.Errorf("P26.4: %v, want %v", s.Regions(), regions)
	}
}

// After a call that fails the session is as it was.
func TestFailures(t *testing.T) {
	s := open(t, page(t, "BT /F 1 Tf (ABC) Tj ET /P Do"))
	long := api.Region{Box: api.Box{X0: number(-500000000000000000), X1: number(500000000000000000), Y0: number(90), Y1: number(90)}}
	s.MarkText("B")
	before, _ := s.Save(true)
	if e := s.Mark(long); e != api.OK {
		t.Fatalf("P26.2: %d", e)
	}
	for _, covers := range []bool{false, true} {
		if l, e := s.Apply(covers); l != nil || e != api.ErrOver {
			t.Errorf("P26.4: %v, %d", l, e)
		}
		if b, e := s.Save(covers); b != nil || e != api.ErrOver {
			t.Errorf("P26.4: %q, %d", b, e)
		}
	}
	s.Mark(region(5, 0, 0, 1, 1))
	s.MarkText("")
	s.Unmark(7)
	s.Text(9)
	if l := s.Regions(); len(l) != 2 || l[1] != long {
		t.Errorf("T4: %v", l)
	}
	s.Unmark(1)
	if after, e := s.Save(true); !bytes.Equal(after, before) || e != api.OK {
		t.Errorf("T4: %q, %d, want %q", after, e, before)
	}
	// Apply succeeds where Save refuses: a font without glyphs gets one for each second code, and these are more than can be written.
	codes := ""
	for i := range 2049 {
		codes += fmt.Sprintf("%04x", 2*i)
	}
	s = open(t, page(t, "BT /W 0 Tf <"+codes+"> Tj ET"))
	if l, e := s.Apply(false); len(l) != 1 || len(l[0].Fonts[0].Font.Glyphs) != 2049 || e != api.OK {
		t.Errorf("P26.4: %d", e)
	}
	if b, e := s.Save(false); b != nil || e != api.ErrLong {
		t.Errorf("P26.4: %d bytes, %d", len(b), e)
	}
	s.Mark(region(0, 0, 0, 0, 0))
	if b, e := s.Save(true); len(b) == 0 || e != api.OK {
		t.Errorf("P26.4: %d bytes, %d", len(b), e)
	}
}

// someContents returns contents whose marks lie between 0 and 40.
func someContents(r *rand.Rand) string {
	s := ""
	at := func() string { return strconv.Itoa(r.Intn(36)) + " " + strconv.Itoa(r.Intn(36)) }
	for range r.Intn(9) {
		s += []string{"BT /F 1 Tf " + at() + " Td (ABC) Tj ET ", "BT /G 2 Tf " + at() + " Td (DA) Tj ET ", "BT /W 2 Tf " + at() + " Td (\\000A\\000B) Tj ET ", at() + " 3 2 re f ", at() + " m " + at() + " l S ", "q 4 0 0 3 " + at() + " cm /P Do Q ", "q 3 0 0 3 " + at() + " cm /Q Do Q ", "q 2 0 0 2 " + at() + " cm BI ID x EI Q ", strconv.Itoa(r.Intn(3)) + " w ", "0 g ", "1 Tr ", "0 Tr "}[r.Intn(12)]
	}
	return s
}

func someRegions(r *rand.Rand, pages int) []api.Region {
	var l []api.Region
	for range r.Intn(4) {
		x, y := r.Intn(36), r.Intn(36)
		l = append(l, region(r.Intn(pages), x, y, x+r.Intn(9), y+r.Intn(9)))
	}
	return l
}

func redacted(t *testing.T, b []byte, regions []api.Region, covers bool) ([]byte, []api.Page) {
	t.Helper()
	s, e := session.Open(b)
	if e != api.OK {
		t.Fatalf("P26.2: %d", e)
	}
	for _, r := range regions {
		if e := s.Mark(r); e != api.OK {
			t.Fatalf("P26.2: %v: %d", r, e)
		}
	}
	pages, e := s.Apply(covers)
	if e != api.OK {
		t.Fatalf("P26.4: %d", e)
	}
	out, e := s.Save(covers)
	if e != api.OK {
		t.Fatalf("P26.4: %d", e)
	}
	return out, pages
}

// meets tells whether a mark meets one of the regions of a page.
func meets(m api.Mark, regions []api.Region, page int) bool {
	return slices.ContainsFunc(regions, func(r api.Region) bool {
		yes, _ := box.Meets(m.Box, r.Box)
		return r.Page == page && yes
	})
}

func TestRedactedFiles(t *testing.T) {
	r := rand.New(rand.NewSource(26))
	for i := range 250 {
		var l []api.Page
		for range 1 + r.Intn(3) {
			l = append(l, page(t, someContents(r)))
		}
		regions, covers := someRegions(r, len(l)), r.Intn(2) == 0
		b, e := save.Save(l)
		if e != api.OK {
			t.Fatal(e)
		}
		out, pages := redacted(t, b, regions, covers)
		// What is loaded is what was left, and it's the same once it is redacted again.
		back, e := save.Load(out)
		if e != api.OK || told(marksOnly(back)) != told(marksOnly(pages)) {
			t.Fatalf("T3: %d: %s\nwant\n%s", e, told(back), told(pages))
		}
		again, _ := redacted(t, out, regions, covers)
		if !bytes.Equal(again, out) {
			t.Fatalf("T5: %s, %v", told(l), regions)
		}
		view, e := session.View(pages, regions, covers)
		if told(view) != told(pages) || e != api.OK {
			t.Fatalf("P26.5: %d: %s\nwant\n%s", e, told(view), told(pages))
		}
		checkLeft(t, l, pages, regions, covers)
		// What is removed, and what isn't used, has no influence.
		other, _ := save.Save(changed(t, r, l, regions))
		same, _ := redacted(t, other, regions, covers)
		if !bytes.Equal(same, out) {
			t.Fatalf("T2: %d: %s, %v", i, told(l), regions)
		}
	}
}

// marksOnly returns pages without their fonts, of which some have more glyphs once they were saved.
func marksOnly(l []api.Page) []api.Page {
	out := slices.Clone(l)
	for i := range out {
		out[i].Fonts = nil
	}
	return out
}

// checkLeft tells whether the marks that are left are those that meet no region, in their order.
func checkLeft(t *testing.T, l, pages []api.Page, regions []api.Region, covers bool) {
	t.Helper()
	for i, p := range pages {
		var want []api.Mark
		for _, m := range l[i].Marks {
			if m.Kind == api.MarkImage && m.Name != "" || !meets(m, regions, i) {
				want = append(want, m)
			}
		}
		hidden := 0
		for _, x := range regions {
			if covers && x.Page == i {
				hidden++
			}
		}
		if len(p.Marks) != len(want)+hidden {
			t.Fatalf("P26.5: page %d: %d marks, want %d and %d", i, len(p.Marks), len(want), hidden)
		}
		for k, m := range want {
			if got := p.Marks[k]; got.Kind != m.Kind || got.M != m.M || got.Code != m.Code || got.Box != m.Box || printed(got.Ops) != printed(m.Ops) || printed(got.State) != printed(m.State) {
				t.Fatalf("P26.5: page %d: %v, want %v", i, got, m)
			}
		}
		a, _ := cut.Text(p.Marks, p.Fonts)
		if b, _ := cut.Text(want, l[i].Fonts); a != b {
			t.Fatalf("P26.5: page %d: %q, want %q", i, a, b)
		}
	}
}

// changed returns pages of which the same is left: with other marks within the regions, other names, other samples where images are covered, and fonts and pictures that are not used.
func changed(t *testing.T, r *rand.Rand, l []api.Page, regions []api.Region) []api.Page {
	t.Helper()
	names := map[string]string{"F": "Zebra", "G": "Ant", "W": "Moth", "P": "Zoo", "Q": "Arc", "": ""}
	out := slices.Clone(l)
	for i, p := range out {
		q := api.Page{Box: p.Box, Fonts: []api.Named{{Name: "Ant", Font: letters("ABCDEXYZ")}, {Name: "Bee", Font: letters("xyz")}, {Name: "Moth", Font: p.Fonts[2].Font}, {Name: "Zebra", Font: letters("ABCDExyz")}}}
		q.Pictures = []api.Picture{{Name: "Arc", Image: p.Pictures[1].Image}, picture("Bow", 1, 1, 8, 1, "s"), {Name: "Zoo", Image: p.Pictures[0].Image}}
		for _, x := range regions {
			if x.Page == i && r.Intn(2) == 0 {
				corner := strconv.Itoa(x.Box.X0.M) + " " + strconv.Itoa(x.Box.Y0.M)
				q.Marks = append(q.Marks, marks(t, "9 w BT /Bee 1 Tf "+corner+" Td (x) Tj ET BT /Ant 1 Tf "+corner+" Td (Z) Tj ET "+corner+" 5 5 re b q 1 0 0 1 "+corner+" cm BI ID secret EI Q", q.Fonts)...)
			}
		}
		for _, m := range p.Marks {
			if meets(m, regions, i) && (m.Kind != api.MarkImage || m.Name == "") {
				continue
			}
			m.Name = names[m.Name]
			q.Marks = append(q.Marks, m)
		}
		out[i] = q
	}
	return out
}

// Samples that are covered have no influence.
func TestCoveredSamples(t *testing.T) {
	p := page(t, "2 0 0 2 0 0 cm /P Do /Q Do")
	q := page(t, "2 0 0 2 0 0 cm /P Do /Q Do")
	q.Pictures = []api.Picture{picture("P", 2, 2, 8, 1, "aXcd"), picture("Q", 3, 1, 8, 3, "abcXYZXYZ")}
	half := api.Dec{M: 15, S: 1}
	regions := []api.Region{{Box: api.Box{X0: api.Dec{M: 13, S: 1}, Y0: half, X1: half, Y1: half}}, {Box: api.Box{X0: half, Y0: half, X1: half, Y1: number(3)}}}
	a, _ := save.Save([]api.Page{p})
	b, _ := save.Save([]api.Page{q})
	if bytes.Equal(a, b) {
		t.Fatal("the files are the same ahead of it")
	}
	a, left := redacted(t, a, regions, false)
	b, _ = redacted(t, b, regions, false)
	if !bytes.Equal(a, b) {
		t.Errorf("T2: %s", told(left))
	}
	if got := short(left[0]).pictures; !slices.Equal(got, []string{"I0001 a.cd", "I0002 abc......"}) {
		t.Errorf("P26.1: %q", got)
	}
}

func TestArgumentsAreKept(t *testing.T) {
	contents := "1 w BT /F 1 Tf (ABC) Tj ET 5 5 1 1 re f BI /W 1 ID x EI /P Do"
	l := []api.Page{page(t, contents), page(t, contents), page(t, "")}
	regions := []api.Region{region(0, 0, 0, 0, 0), region(1, 5, 5, 5, 5), region(1, 9, 9, 9, 9)}
	before := told(l)
	out, e := session.View(l[:2], regions[:2], true)
	if e != api.OK {
		t.Fatal(e)
	}
	for i := range out {
		for _, m := range out[i].Marks {
			for _, o := range append(slices.Clone(m.Ops), m.State...) {
				clear(o.Args)
			}
			clear(m.Ops)
			clear(m.State)
		}
		for _, x := range out[i].Pictures {
			clear(x.Image.Data)
		}
		for _, f := range out[i].Fonts {
			clear(f.Font.Glyphs)
		}
		clear(out[i].Marks)
		_ = append(out[i].Marks, api.Mark{})
	}
	if told(l) != before || !slices.Equal(regions, []api.Region{region(0, 0, 0, 0, 0), region(1, 5, 5, 5, 5), region(1, 9, 9, 9, 9)}) {
		t.Errorf("R2: %s, want %s", told(l), before)
	}
}
