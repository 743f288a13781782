package view_test

import (
	"slices"
	"strconv"
	"strings"
	"testing"

	"erasure/api"
	"erasure/box"
	"erasure/dec"
	"erasure/ops"
	"erasure/view"
)

func parse(t *testing.T, s string) []api.Op {
	t.Helper()
	l, e := ops.Parse([]byte(s))
	if e != api.OK {
		t.Fatalf("P20.1: %.200q: %d", s, e)
	}
	return l
}

// fonts are F, of which the blank is 1000 wide, A 500, B 250, all others nothing; and W, a wide one of 400, with 00 20 of 100.
func fonts() []api.Named {
	return []api.Named{
		{Name: "F", Font: api.Font{Glyphs: []api.Glyph{{Code: 32, Width: 1000}, {Code: 65, Width: 500, Text: "\x00A"}, {Code: 66, Width: 250}}}},
		{Name: "W", Font: api.Font{Wide: true, Other: 400, Glyphs: []api.Glyph{{Code: 32, Width: 100}}}},
	}
}

func decs(l ...api.Dec) string {
	var words []string
	for _, d := range l {
		s, _ := dec.Print(d)
		words = append(words, s)
	}
	return strings.Join(words, " ")
}

func boxText(b api.Box) string { return decs(b.X0, b.Y0, b.X1, b.Y1) }

func opsText(l []api.Op) string {
	s, e := ops.Print(l)
	if e != api.OK {
		return "error " + strconv.Itoa(int(e))
	}
	return strings.ReplaceAll(strings.TrimSuffix(s, "\n"), "\n", ", ")
}

// told returns a mark as a line: what it is, its matrix, its box, its state and its operators.
func told(m api.Mark) string {
	s := []string{"?", "glyph", "path", "image"}[m.Kind]
	if m.Name != "" {
		s += " " + m.Name
	}
	if m.Kind == api.MarkGlyph || m.Code != 0 {
		s += " " + strconv.Itoa(m.Code)
	}
	s += " by " + decs(m.M.A, m.M.B, m.M.C, m.M.D, m.M.E, m.M.F) + ", box " + boxText(m.Box)
	if len(m.State) > 0 {
		s += ", state " + opsText(m.State)
	}
	if len(m.Ops) > 0 {
		s += ": " + opsText(m.Ops)
	}
	return s
}

// see returns the marks of a content as lines, and asks for the box of each.
func see(t *testing.T, s string) []string {
	t.Helper()
	l, e := view.See(parse(t, s), fonts())
	if e != api.OK {
		t.Errorf("P21.1: %.200q: %d", s, e)
	}
	var out []string
	for _, m := range l {
		out = append(out, told(m))
		if b, e := view.Box(m, fonts()); b != m.Box || e != api.OK || box.Check(b) != api.OK {
			t.Errorf("P21.3: %.200q: %s: its box is %s, %d", s, told(m), boxText(b), e)
		}
	}
	return out
}

type content struct {
	in   string
	want []string
}

func check(t *testing.T, l []content) {
	t.Helper()
	for _, c := range l {
		if got := see(t, c.in); !slices.Equal(got, c.want) {
			t.Errorf("P21.1: %q:\n%s\nwant\n%s", c.in, strings.Join(got, "\n"), strings.Join(c.want, "\n"))
		}
	}
}

func TestMatrices(t *testing.T) {
	check(t, []content{
		{"", nil}, {"q Q", nil}, {"BT ET", nil}, {"q q Q q Q Q", nil}, {"BT ET BT ET", nil},
		{"q 2 0 0 3 5 7 cm q 0 1 -1 0 1 0 cm /X Do Q /Y Do Q /Z Do", []string{"image X by 0 3 -2 0 7 7, box 5 7 7 10", "image Y by 2 0 0 3 5 7, box 5 7 7 10", "image Z by 1 0 0 1 0 0, box 0 0 1 1"}},
		{"1 0 0 1 5 6 cm 2 0 0 3 0 0 cm /X Do", []string{"image X by 2 0 0 3 5 6, box 5 6 7 9"}}, {"2 0 0 3 0 0 cm 1 0 0 1 5 6 cm /X Do", []string{"image X by 2 0 0 3 10 18, box 10 18 12 21"}},
		{"1 2 3 4 5 6 cm /X Do", []string{"image X by 1 2 3 4 5 6, box 5 6 9 12"}},
		{"0 0 0 0 9 9 cm BI /W 1 ID abc EI", []string{"image by 0 0 0 0 9 9, box 9 9 9 9: BI /W 1 ID abc, EI"}}, {"-0.5 0 0 -0.25 0 0 cm BI ID  EI", []string{"image by -0.5 0 0 -0.25 0 0, box -0.5 -0.25 0 0: BI ID , EI"}},
		{"/A#20b Do", []string{"image A b by 1 0 0 1 0 0, box 0 0 1 1"}},
	})
}

func TestPaths(t *testing.T) {
	one := "path by 1 0 0 1 0 0, box "
	check(t, []content{
		{"2 0 0 2 0 0 cm 1 1 3 4 re f", []string{"path by 2 0 0 2 0 0, box 2 2 8 10: 1 1 3 4 re, f"}},
		{"1 2 m 3 4 l S", []string{one + "1 2 3 4: 1 2 m, 3 4 l, S"}}, {"1 2 m s", []string{one + "1 2 1 2: 1 2 m, s"}},
		{"5 5 m 1 9 7 0 6 6 c f", []string{one + "1 0 7 9: 5 5 m, 1 9 7 0 6 6 c, f"}}, {"5 5 m 6 6 5 5 1 9 c F", []string{one + "1 5 6 9: 5 5 m, 6 6 5 5 1 9 c, F"}},
		{"5 5 m 1 9 7 0 v F", []string{one + "1 0 7 9: 5 5 m, 1 9 7 0 v, F"}}, {"5 5 m 9 1 0 7 y B", []string{one + "0 1 9 7: 5 5 m, 9 1 0 7 y, B"}},
		{"1 1 m 2 2 l h f*", []string{one + "1 1 2 2: 1 1 m, 2 2 l, h, f*"}}, {"5 5 -2 -3 re B*", []string{one + "3 2 5 5: 5 5 -2 -3 re, B*"}},
		{"0 1 -1 0 0 0 cm 1 2 3 4 re b", []string{"path by 0 1 -1 0 0 0, box -6 1 -2 4: 1 2 3 4 re, b"}}, {"1 1 2 0 0 0 cm 0 0 1 1 re b", []string{"path by 1 1 2 0 0 0, box 0 0 3 1: 0 0 1 1 re, b"}},
		{"1 1 1 1 re 5 5 1 1 re 9 9 m 9 10 l b*", []string{one + "1 1 9 10: 1 1 1 1 re, 5 5 1 1 re, 9 9 m, 9 10 l, b*"}}, {"1 1 1 1 re h 2 2 l 0 0 0 0 re S", []string{one + "0 0 2 2: 1 1 1 1 re, h, 2 2 l, 0 0 0 0 re, S"}},
		{"1 1 m 2 2 l n 3 3 m 4 4 l S 5 5 m n", []string{one + "3 3 4 4: 3 3 m, 4 4 l, S"}}, {"0.5 0 0 0.5 0 0 cm 1 1 m 2 3 m S", []string{"path by 0.5 0 0 0.5 0 0, box 0.5 0.5 1 1.5: 1 1 m, 2 3 m, S"}},
		{"1 1 m S 2 2 m s", []string{one + "1 1 1 1: 1 1 m, S", one + "2 2 2 2: 2 2 m, s"}}, {"1 1 m /A BMC 2 2 l EMC S", []string{one + "1 1 2 2: 1 1 m, 2 2 l, S"}},
	})
}

func TestSettings(t *testing.T) {
	x := "image X by 1 0 0 1 0 0, box 0 0 1 1"
	check(t, []content{
		{"1 w /X Do", []string{x + ", state 1 w"}}, {"1 w 2 w /X Do 3 w", []string{x + ", state 2 w"}}, {"/X Do 1 w", []string{x}},
		{"0.5 w 1 i 2 M 0 J 1 j .5 g 1 G [ 1 2.5 ] 3 d /P ri /X Do", []string{x + ", state 1 G, 0 J, 2 M, [ 1 2.5 ] 3 d, 0.5 g, 1 i, 1 j, /P ri, 0.5 w"}}, {"[] 0 d / ri /X Do", []string{x + ", state [ ] 0 d, / ri"}},
		// Colours replace one another.
		{"1 g 1 2 3 rg /X Do 1 2 3 4 k /X Do 0 g /X Do", []string{x + ", state 1 2 3 rg", x + ", state 1 2 3 4 k", x + ", state 0 g"}}, {"1 G 1 2 3 RG /X Do 1 2 3 4 K /X Do 0 G /X Do", []string{x + ", state 1 2 3 RG", x + ", state 1 2 3 4 K", x + ", state 0 G"}},
		{"1 2 3 rg 1 2 3 4 K 5 w /X Do 1 G 5 5 5 5 k /X Do", []string{x + ", state 1 2 3 4 K, 1 2 3 rg, 5 w", x + ", state 1 G, 5 5 5 5 k, 5 w"}}, {"-1 g 99 G /X Do", []string{x + ", state 99 G, -1 g"}},
		// They are saved, and what is saved does not change.
		{"1 w q 2 w 1 g /X Do Q /X Do q 3 w q 4 w Q /X Do Q /X Do", []string{x + ", state 1 g, 2 w", x + ", state 1 w", x + ", state 3 w", x + ", state 1 w"}},
		{"q 1 w 2 M 0 g Q /X Do", []string{x}}, {"1 w 2 M 3 i 4 j q 0 g 9 G Q 5 J q 1 1 1 rg Q /X Do", []string{x + ", state 5 J, 2 M, 3 i, 4 j, 1 w"}},
		// Each kind of mark has them, and so has a path what was set ahead of it.
		{"7 w 0 0 m S BT /F 1 Tf (A) Tj 8 w (A) Tj ET BI ID x EI", []string{"path by 1 0 0 1 0 0, box 0 0 0 0, state 7 w: 0 0 m, S", "glyph F 65 by 1 0 0 1 0 0, box 0 -0.3 0.5 1, state 7 w", "glyph F 65 by 1 0 0 1 0.5 0, box 0.5 -0.3 1 1, state 8 w", "image by 1 0 0 1 0 0, box 0 0 1 1, state 8 w: BI ID x, EI"}},
		// The mode is that of glyphs alone, and stands among the others by its name.
		{"2 Tr 1 w 0 g 1 G /X Do BT /F 1 Tf (A) Tj 0 Tr (A) Tj 3 Tr (A) Tj ET 0 0 m S", []string{x + ", state 1 G, 0 g, 1 w", "glyph F 65 by 1 0 0 1 0 0, box 0 -0.3 0.5 1, state 1 G, 2 Tr, 0 g, 1 w", "glyph F 65 by 1 0 0 1 0.5 0, box 0.5 -0.3 1 1, state 1 G, 0 g, 1 w",
			"glyph F 65 by 1 0 0 1 1 0, box 1 -0.3 1.5 1, state 1 G, 3 Tr, 0 g, 1 w", "path by 1 0 0 1 0 0, box 0 0 0 0, state 1 G, 0 g, 1 w: 0 0 m, S"}},
		{"q 1 Tr Q /F 1 Tf BT (A) Tj 1 Tr (A) Tj ET", []string{"glyph F 65 by 1 0 0 1 0 0, box 0 -0.3 0.5 1", "glyph F 65 by 1 0 0 1 0.5 0, box 0.5 -0.3 1 1, state 1 Tr"}},
		// Marked content is nothing, wherever it stands.
		{"/A BMC /B MP /C [ 1 ] BDC /D << /E 1 >> DP EMC EMC EMC BT EMC /A BMC ET", nil},
	})
}

func TestText(t *testing.T) {
	check(t, []content{
		{"BT /F 10 Tf 5 7 Td (AA) Tj ET", []string{"glyph F 65 by 10 0 0 10 5 7, box 5 4 10 17", "glyph F 65 by 10 0 0 10 10 7, box 10 4 15 17"}},
		{"/F 10 Tf BT () Tj ET BT (B) Tj ET", []string{"glyph F 66 by 10 0 0 10 0 0, box 0 -3 2.5 10"}}, {"BT /F 2 Tf (C\\377A) Tj ET", []string{"glyph F 67 by 2 0 0 2 0 0, box 0 -0.6 0 2", "glyph F 255 by 2 0 0 2 0 0, box 0 -0.6 0 2", "glyph F 65 by 2 0 0 2 0 0, box 0 -0.6 1 2"}},
		{"BT /F -2 Tf (A) Tj (A) Tj ET", []string{"glyph F 65 by -2 0 0 -2 0 0, box -1 -2 0 0.6", "glyph F 65 by -2 0 0 -2 -1 0, box -2 -2 -1 0.6"}}, {"BT /F 0 Tf (AA) Tj ET", []string{"glyph F 65 by 0 0 0 0 0 0, box 0 0 0 0", "glyph F 65 by 0 0 0 0 0 0, box 0 0 0 0"}},
		// Lines.
		{"BT /F 1 Tf 1 2 Td 3 4 Td (A) Tj 1 0 Td (A) Tj ET", []string{"glyph F 65 by 1 0 0 1 4 6, box 4 5.7 4.5 7", "glyph F 65 by 1 0 0 1 5 6, box 5 5.7 5.5 7"}}, {"BT /F 1 Tf 9 9 Td ET BT (A) Tj ET", []string{"glyph F 65 by 1 0 0 1 0 0, box 0 -0.3 0.5 1"}},
		{"BT /F 1 Tf 2 0 0 2 1 1 Tm (A) Tj 1 1 Td (A) Tj 1 0 0 1 0 0 Tm (A) Tj ET", []string{"glyph F 65 by 2 0 0 2 1 1, box 1 0.4 2 3", "glyph F 65 by 2 0 0 2 3 3, box 3 2.4 4 5", "glyph F 65 by 1 0 0 1 0 0, box 0 -0.3 0.5 1"}},
		{"BT /F 1 Tf 12 TL T* (A) Tj T* (A) Tj ET", []string{"glyph F 65 by 1 0 0 1 0 -12, box 0 -12.3 0.5 -11", "glyph F 65 by 1 0 0 1 0 -24, box 0 -24.3 0.5 -23"}}, {"BT /F 1 Tf 1 -3 TD (A) Tj T* (A) Tj ET", []string{"glyph F 65 by 1 0 0 1 1 -3, box 1 -3.3 1.5 -2", "glyph F 65 by 1 0 0 1 1 -6, box 1 -6.3 1.5 -5"}},
		{"BT /F 1 Tf T* (A) Tj ET", []string{"glyph F 65 by 1 0 0 1 0 0, box 0 -0.3 0.5 1"}}, {"BT /F 1 Tf 5 TL (A) ' (A) ' ET", []string{"glyph F 65 by 1 0 0 1 0 -5, box 0 -5.3 0.5 -4", "glyph F 65 by 1 0 0 1 0 -10, box 0 -10.3 0.5 -9"}},
		{"BT /F 1 Tf 5 TL 2 3 ( A) \" (A) ' ET", []string{"glyph F 32 by 1 0 0 1 0 -5, box 0 -5.3 1 -4", "glyph F 65 by 1 0 0 1 6 -5, box 6 -5.3 6.5 -4", "glyph F 65 by 1 0 0 1 0 -10, box 0 -10.3 0.5 -9"}},
		// Spacing: of all codes, of the blank of fonts that are not wide, of a whole text.
		{"BT /F 2 Tf 3 Tc (AA) Tj ET", []string{"glyph F 65 by 2 0 0 2 0 0, box 0 -0.6 1 2", "glyph F 65 by 2 0 0 2 4 0, box 4 -0.6 5 2"}}, {"BT /F 2 Tf 3 Tw (A A) Tj ET", []string{"glyph F 65 by 2 0 0 2 0 0, box 0 -0.6 1 2", "glyph F 32 by 2 0 0 2 1 0, box 1 -0.6 3 2", "glyph F 65 by 2 0 0 2 6 0, box 6 -0.6 7 2"}},
		{"BT /W 10 Tf 3 Tw (\\000 \\000A) Tj <2020> Tj ET", []string{"glyph W 32 by 10 0 0 10 0 0, box 0 -3 1 10", "glyph W 65 by 10 0 0 10 1 0, box 1 -3 5 10", "glyph W 8224 by 10 0 0 10 5 0, box 5 -3 9 10"}},
		{"BT /F 2 Tf 50 Tz 1 Tc 2 Tw ( A) Tj ET", []string{"glyph F 32 by 1 0 0 2 0 0, box 0 -0.6 1 2", "glyph F 65 by 1 0 0 2 2.5 0, box 2.5 -0.6 3 2"}}, {"BT /F 2 Tf 5 Ts (A) Tj 0 Ts (A) Tj ET", []string{"glyph F 65 by 2 0 0 2 0 5, box 0 4.4 1 7", "glyph F 65 by 2 0 0 2 1 0, box 1 -0.6 2 2"}},
		{"BT /F 2 Tf -100 Tz (AA) Tj ET", []string{"glyph F 65 by -2 0 0 2 0 0, box -1 -0.6 0 2", "glyph F 65 by -2 0 0 2 -1 0, box -2 -0.6 -1 2"}}, {"BT /F 2 Tf 0 Tz (AA) Tj ET", []string{"glyph F 65 by 0 0 0 2 0 0, box 0 -0.6 0 2", "glyph F 65 by 0 0 0 2 0 0, box 0 -0.6 0 2"}},
		{"BT /F 2 Tf [ (A) -500 (A) 250.5 () (A) ] TJ ET", []string{"glyph F 65 by 2 0 0 2 0 0, box 0 -0.6 1 2", "glyph F 65 by 2 0 0 2 2 0, box 2 -0.6 3 2", "glyph F 65 by 2 0 0 2 2.499 0, box 2.499 -0.6 3.499 2"}}, {"BT /F 2 Tf 50 Tz [ -1000 (A) ] TJ (A) Tj ET", []string{"glyph F 65 by 1 0 0 2 1 0, box 1 -0.6 1.5 2", "glyph F 65 by 1 0 0 2 1.5 0, box 1.5 -0.6 2 2"}},
		{"BT [ ] TJ [ 5 -5 ] TJ ET", nil}, {"BT /F 2 Tf 9 Tc 9 Tw [ -1000 (A) ] TJ ET", []string{"glyph F 65 by 2 0 0 2 2 0, box 2 -0.6 3 2"}},
		// All matrices together.
		{"0 1 -1 0 100 0 cm BT /F 4 Tf 25 Tz 1 Ts 2 0 0 3 10 20 Tm (AA) Tj ET", []string{"glyph F 65 by 0 2 -12 0 77 10, box 65 10 80.6 11", "glyph F 65 by 0 2 -12 0 77 11, box 65 11 80.6 12"}},
		// The text state is saved, and what is set outside of a text holds within.
		{"/F 2 Tf 1 Tc 2 Tw 50 Tz 3 TL 4 Ts q /W 1 Tf 9 Tc 9 Tw 99 Tz 9 TL 9 Ts 1 Tr BT ET Q BT T* ( A) Tj ET", []string{"glyph F 32 by 1 0 0 2 0 1, box 0 0.4 1 3", "glyph F 65 by 1 0 0 2 2.5 1, box 2.5 0.4 3 3"}},
		{"BT /F 1 Tf (A) Tj /W 2 Tf (AA) Tj ET", []string{"glyph F 65 by 1 0 0 1 0 0, box 0 -0.3 0.5 1", "glyph W 16705 by 2 0 0 2 0.5 0, box 0.5 -0.6 1.3 2"}},
	})
}

// Two contents one after the other, the first one enclosed, have the marks of each.
func TestEnclosed(t *testing.T) {
	l := []string{"", "1 w 2 0 0 2 0 0 cm /X Do", "BT /F 5 Tf 9 Tc 1 Tr (A) Tj ET 1 g", "0 0 m 1 1 l S 1 2 3 rg", "q 3 w Q BT /W 1 Tf 3 TL T* (AA) Tj ET", "BI ID x EI 0 g 5 Ts 50 Tz 1 Tw /F 7 Tf"}
	for _, a := range l {
		for _, b := range l {
			if got, want := see(t, "q "+a+" Q "+b), append(see(t, a), see(t, b)...); !slices.Equal(got, want) {
				t.Errorf("P21.3: %q and %q: %q, want %q", a, b, got, want)
			}
		}
	}
}
