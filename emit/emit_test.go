package emit_test

import (
	"math"
	"math/rand"
	"reflect"
	"slices"
	"strconv"
	"strings"
	"testing"

	"erasure/api"
	"erasure/box"
	"erasure/dec"
	"erasure/emit"
	"erasure/ops"
	"erasure/view"
)

func parse(t *testing.T, s string) []api.Op {
	t.Helper()
	l, e := ops.Parse([]byte(s))
	if e != api.OK {
		t.Fatalf("P20.1: %.200q: %d", s, e)
	}
	return l
}

// printed returns operators as a line.
func printed(t *testing.T, l []api.Op) string {
	t.Helper()
	s, e := ops.Print(l)
	if e != api.OK {
		t.Fatalf("P20.2: %v: %d", l, e)
	}
	return strings.Join(strings.Fields(s), " ")
}

func fonts() []api.Named {
	return []api.Named{
		{Name: "F", Font: api.Font{Glyphs: []api.Glyph{{Code: 65, Width: 500, Text: "\x00A"}, {Code: 66, Width: 250}}}},
		{Name: "W", Font: api.Font{Wide: true, Other: 400}},
		{Name: "", Font: api.Font{}},
	}
}

func see(t *testing.T, s string) []api.Mark {
	t.Helper()
	l, e := view.See(parse(t, s), fonts())
	if e != api.OK {
		t.Fatalf("P21.1: %.200q: %d", s, e)
	}
	return l
}

// same tells whether two lists of marks are equal; lists without elements may be nil.
func same(a, b []api.Mark) bool {
	return slices.EqualFunc(a, b, func(x, y api.Mark) bool {
		x.Ops, x.State = append([]api.Op{}, x.Ops...), append([]api.Op{}, x.State...)
		y.Ops, y.State = append([]api.Op{}, y.Ops...), append([]api.Op{}, y.State...)
		for _, l := range [][]api.Op{x.Ops, x.State, y.Ops, y.State} {
			for i := range l {
				l[i].Args = append([]api.Obj{}, l[i].Args...)
			}
		}
		return reflect.DeepEqual(x, y)
	})
}

func TestOps(t *testing.T) {
	for _, c := range []struct{ in, want string }{
		{"BT /F 10 Tf 5 7 Td (A) Tj ET", "q 10 0 0 10 5 7 cm BT /F 1 Tf <41> Tj ET Q"}, {"BT /F 10 Tf 50 Tz 2 Ts 1 2 3 4 5 6 Tm (B) Tj ET", "q 5 10 30 40 11 14 cm BT /F 1 Tf <42> Tj ET Q"}, {"BT /W 1 Tf <0141> Tj ET", "q 1 0 0 1 0 0 cm BT /W 1 Tf <0141> Tj ET Q"}, {"BT /W 0 Tf <ffff> Tj ET", "q 0 0 0 0 0 0 cm BT /W 1 Tf <ffff> Tj ET Q"}, {"BT / 1 Tf <ff> Tj ET", "q 1 0 0 1 0 0 cm BT / 1 Tf <ff> Tj ET Q"},
		{"BT /F 1 Tf (\\000) Tj ET", "q 1 0 0 1 0 0 cm BT /F 1 Tf <00> Tj ET Q"}, {"2 w 1 g BT 2 Tr 9 Tc 9 Tw /F 1 Tf (A) Tj ET", "q 2 Tr 1 g 2 w 1 0 0 1 0 0 cm BT /F 1 Tf <41> Tj ET Q"}, {"3 Tr 1 2 3 RG [ 1 2 ] 3 d /A ri BT /F 1 Tf (A) Tj ET", "q 1 2 3 RG 3 Tr [ 1 2 ] 3 d /A ri 1 0 0 1 0 0 cm BT /F 1 Tf <41> Tj ET Q"},
		{"2 0 0 2 0 0 cm 1 1 3 4 re f", "q 2 0 0 2 0 0 cm 1 1 3 4 re f Q"}, {"1 w 0.5 0 0 0.5 -1 -2 cm 1 1 m 2 2 l 1 2 3 4 5 6 c 1 2 3 4 v 1 2 3 4 y h b*", "q 1 w 0.5 0 0 0.5 -1 -2 cm 1 1 m 2 2 l 1 2 3 4 5 6 c 1 2 3 4 v 1 2 3 4 y h b* Q"},
		{"1 2 3 4 5 6 cm /X Do", "q 1 2 3 4 5 6 cm /X Do Q"}, {"0 g 2 Tr BI /W 1 ID abc EI", "q 0 g 1 0 0 1 0 0 cm BI /W 1 ID abc EI Q"}, {"/a#20b Do", "q 1 0 0 1 0 0 cm /a#20b Do Q"},
	} {
		m := see(t, c.in)
		if len(m) != 1 {
			t.Fatalf("P21.1: %q: %d marks", c.in, len(m))
		}
		l, e := emit.Ops(m[0], fonts())
		if e != api.OK {
			t.Errorf("P24.1: %q: %d", c.in, e)
			continue
		}
		if got := printed(t, l); got != c.want {
			t.Errorf("P24.1: %q: %s, want %s", c.in, got, c.want)
		}
		if again, e := view.See(l, fonts()); !same(again, m) || e != api.OK {
			t.Errorf("P24.4: %q: %v, %d, want %v", c.in, again, e, m)
		}
	}
}

// changes are what makes marks other ones than those that are seen.
func changes() map[string]func(*api.Mark) {
	one := api.Obj{Kind: api.ObjNum, Num: api.Dec{M: 1}}
	return map[string]func(*api.Mark){
		"no kind": func(m *api.Mark) { m.Kind = 0 }, "the next kind": func(m *api.Mark) { m.Kind = m.Kind%3 + 1 }, "the last kind": func(m *api.Mark) { m.Kind = (m.Kind+1)%3 + 1 }, "kind 4": func(m *api.Mark) { m.Kind = 4 }, "kind -1": func(m *api.Mark) { m.Kind = -1 },
		"another matrix": func(m *api.Mark) { m.M.A = api.Dec{M: 7} }, "another place": func(m *api.Mark) { m.M.F = api.Dec{M: 77} }, "a matrix that is not valid": func(m *api.Mark) { m.M.E = api.Dec{M: 10, S: 1} }, "a matrix that is too great": func(m *api.Mark) { m.M.E = api.Dec{M: api.MaxDec}; m.M.A = api.Dec{M: api.MaxDec} },
		"another box": func(m *api.Mark) { m.Box.X1 = api.Dec{M: 77} }, "no box": func(m *api.Mark) { m.Box = api.Box{X1: api.Dec{M: -1}} }, "a box that is not valid": func(m *api.Mark) { m.Box.Y0 = api.Dec{M: 0, S: 1} },
		"another font, or a name": func(m *api.Mark) {
			if m.Kind == api.MarkImage && m.Name != "" {
				m.Name = ""
			} else {
				m.Name = "G"
			}
		},
		"a code": func(m *api.Mark) { m.Code += 65536 }, "a code below": func(m *api.Mark) { m.Code -= 65536 },
		"a setting": func(m *api.Mark) { m.State = append(m.State, api.Op{Name: "zz"}) }, "another setting": func(m *api.Mark) { m.State = append(slices.Clone(m.State), api.Op{Name: "q"}) }, "a state and its end": func(m *api.Mark) { m.State = append(slices.Clone(m.State), api.Op{Name: "q"}, api.Op{Name: "Q"}) }, "a setting that is not valid": func(m *api.Mark) { m.State = []api.Op{{Name: "true"}} }, "a setting with a reference": func(m *api.Mark) { m.State = []api.Op{{Name: "w", Args: []api.Obj{{Kind: api.ObjRef, Ref: 1}}}} },
		"settings in another order": func(m *api.Mark) {
			m.State = []api.Op{{Name: "w", Args: []api.Obj{one}}, {Name: "g", Args: []api.Obj{one}}}
		}, "a setting twice": func(m *api.Mark) {
			m.State = []api.Op{{Name: "w", Args: []api.Obj{one}}, {Name: "w", Args: []api.Obj{one}}}
		}, "two colours": func(m *api.Mark) {
			m.State = []api.Op{{Name: "g", Args: []api.Obj{one}}, {Name: "rg", Args: []api.Obj{one, one, one}}}
		},
		"a setting that is none": func(m *api.Mark) { m.State = []api.Op{{Name: "Tc", Args: []api.Obj{one}}} }, "mode 0": func(m *api.Mark) { m.State = []api.Op{{Name: "Tr", Args: []api.Obj{{Kind: api.ObjNum}}}} }, "mode 4": func(m *api.Mark) {
			m.State = []api.Op{{Name: "Tr", Args: []api.Obj{{Kind: api.ObjNum, Num: api.Dec{M: 4}}}}}
		}, "a matrix among the settings": func(m *api.Mark) {
			m.State = []api.Op{{Name: "cm", Args: []api.Obj{one, {Kind: api.ObjNum}, {Kind: api.ObjNum}, one, {Kind: api.ObjNum}, {Kind: api.ObjNum}}}}
		},
		"a mark among the settings": func(m *api.Mark) { m.State = []api.Op{{Name: "Do", Args: []api.Obj{{Kind: api.ObjName, Text: "X"}}}} }, "marked content": func(m *api.Mark) { m.State = []api.Op{{Name: "EMC"}} }, "a font among the settings": func(m *api.Mark) {
			m.State = []api.Op{{Name: "Tf", Args: []api.Obj{{Kind: api.ObjName, Text: "F"}, one}}}
		}, "too many settings": func(m *api.Mark) { m.State = slices.Repeat([]api.Op{{Name: "EMC"}}, 65536) },
		"an operator more": func(m *api.Mark) { m.Ops = append(slices.Clone(m.Ops), api.Op{Name: "EMC"}) }, "an operator more, ahead": func(m *api.Mark) { m.Ops = append([]api.Op{{Name: "EMC"}}, m.Ops...) }, "an operator that is not valid": func(m *api.Mark) { m.Ops = []api.Op{{Name: "1"}} }, "an end": func(m *api.Mark) { m.Ops = append(slices.Clone(m.Ops), api.Op{Name: "Q"}) }, "operators of another mark": func(m *api.Mark) {
			m.Ops = append(slices.Clone(m.Ops), m.Ops...)
			m.Ops = append(m.Ops, api.Op{Name: "h"})
		}, "operators twice": func(m *api.Mark) { m.Ops = append(slices.Repeat(slices.Clone(m.Ops), 2), api.Op{Name: "EMC"}) },
	}
}

func TestOpsRefuse(t *testing.T) {
	for _, s := range []string{"BT /F 10 Tf 5 7 Td (A) Tj ET", "2 Tr BT /W 1 Tf (AA) Tj ET", "1 1 3 4 re f", "1 w 1 1 m 2 3 l S", "3 0 0 3 1 1 cm /X Do", "BI /W 1 ID abc EI"} {
		good := see(t, s)[0]
		for name, change := range changes() {
			m := good
			change(&m)
			if l, e := emit.Ops(m, fonts()); l != nil || e != api.ErrArg {
				t.Errorf("P24.1: %q, %s: %v, %d", s, name, l, e)
			}
			for _, marks := range [][]api.Mark{{m}, {good, m}, {m, good}} {
				if l, e := emit.Emit(marks, fonts()); l != nil || e != api.ErrArg {
					t.Errorf("P24.2: %q, %s: %d operators, %d", s, name, len(l), e)
				}
			}
		}
	}
	glyph := see(t, "BT /F 10 Tf 5 7 Td (A) Tj ET")[0]
	path, image := see(t, "1 1 3 4 re f")[0], see(t, "/X Do")[0]
	for name, m := range map[string]func() api.Mark{
		"code 256": func() api.Mark { m := glyph; m.Code = 256; return m }, "code -1": func() api.Mark { m := glyph; m.Code = -1; return m }, "another code": func() api.Mark { m := glyph; m.Code = 66; return m }, "a font of another width": func() api.Mark { m := glyph; m.Name = "W"; return m }, "operators of a glyph": func() api.Mark { m := glyph; m.Ops = parse(t, "1 w"); return m },
		"a path that is dropped": func() api.Mark { m := path; m.Ops = parse(t, "1 1 3 4 re n"); return m }, "a path without its end": func() api.Mark { m := path; m.Ops = parse(t, "1 1 3 4 re"); return m }, "two paths": func() api.Mark { m := path; m.Ops = parse(t, "1 1 3 4 re f 1 1 3 4 re f"); return m }, "no path": func() api.Mark { m := path; m.Ops = nil; return m }, "a path with a code": func() api.Mark { m := path; m.Code = 1; return m }, "a path that does not begin": func() api.Mark { m := path; m.Ops = parse(t, "1 1 l 4 5 l f"); return m },
		"a path that is an image": func() api.Mark { m := path; m.Ops = parse(t, "/X Do"); return m }, "a path that is a text": func() api.Mark { m := path; m.Ops = parse(t, "BT /F 1 Tf (A) Tj ET"); return m }, "a path with a mode": func() api.Mark { m := path; m.State = parse(t, "1 Tr"); return m }, "an image with a code": func() api.Mark { m := image; m.Code = 1; return m }, "an image with operators": func() api.Mark { m := image; m.Ops = parse(t, "/X Do"); return m }, "an image that is named elsewhere": func() api.Mark { m := image; m.Name, m.Ops = "", parse(t, "/X Do"); return m },
		"an image of nothing": func() api.Mark { m := image; m.Name = ""; return m }, "an image that is a path": func() api.Mark { m := image; m.Name, m.Ops = "", parse(t, "0 0 1 1 re f"); return m }, "two images": func() api.Mark { m := image; m.Name, m.Ops = "", parse(t, "BI ID x EI BI ID x EI"); return m }, "an image and a setting": func() api.Mark { m := image; m.Name, m.Ops = "", parse(t, "1 w BI ID x EI"); return m }, "an image of a name that is none": func() api.Mark { m := image; m.Name = "a\x00"; return m }, "an image of a name that is too long": func() api.Mark { m := image; m.Name = strings.Repeat("x", 65536); return m },
		"a long path": func() api.Mark {
			m := path
			m.Ops = slices.Concat(parse(t, "1 1 3 4 re "+strings.Repeat("h ", 4096)), parse(t, "f"))
			return m
		},
	} {
		if l, e := emit.Ops(m(), fonts()); l != nil || e != api.ErrArg {
			t.Errorf("P24.1: %s: %v, %d", name, l, e)
		}
	}
	long := path
	long.Ops = parse(t, "1 1 3 4 re "+strings.Repeat("h ", 4095)+"f")
	if l, e := emit.Ops(long, nil); len(l) != 4097+3 || e != api.OK {
		t.Errorf("P24.1: a path of 4096 operators: %d, %d", len(l), e)
	}
}

func TestFontsThatAreMissing(t *testing.T) {
	marks := see(t, "BT /F 10 Tf 5 7 Td (A) Tj ET 1 1 3 4 re f /X Do")
	glyph := marks[0]
	many := fonts()
	for i := range 62 {
		many = append(many, api.Named{Name: "X" + strconv.Itoa(i)})
	}
	wrong := map[string][]api.Named{"65 fonts": many, "a name twice": append(fonts(), fonts()[1]), "a font that is not valid": append(fonts(), api.Named{Name: "H", Font: api.Font{Other: 10001}})}
	for name, l := range wrong {
		for _, m := range marks {
			if got, e := emit.Ops(m, l); got != nil || e != api.ErrArg {
				t.Errorf("P24.1: %s: %v, %d", name, got, e)
			}
		}
		for n := range 4 {
			if got, e := emit.Emit(marks[:n], l); got != nil || e != api.ErrArg {
				t.Errorf("P24.2: %s: %v, %d", name, got, e)
			}
		}
	}
	for _, l := range [][]api.Named{nil, fonts()[1:], {{Name: "f", Font: fonts()[0].Font}}, {{Name: "F", Font: fonts()[1].Font}}, {{Name: "F"}}} {
		if got, e := emit.Ops(glyph, l); got != nil || e != api.ErrArg {
			t.Errorf("P24.1: %v: %v, %d", l, got, e)
		}
	}
	// Without a font there is no width either, not even 0.
	flat := see(t, "BT /F 1 Tf (C) Tj ET")[0]
	flat.Name = "G"
	if got, e := emit.Ops(flat, fonts()); got != nil || e != api.ErrArg {
		t.Errorf("P24.1: a glyph without a width: %v, %d", got, e)
	}
	if _, e := emit.Ops(flat, []api.Named{{Name: "G"}}); e != api.OK {
		t.Errorf("P24.1: a glyph without a width: %d", e)
	}
	// A font of which only the width of the code counts, and marks that need none.
	if _, e := emit.Ops(glyph, []api.Named{{Name: "F", Font: api.Font{Other: 500}}}); e != api.OK {
		t.Errorf("P24.1: %d", e)
	}
	for _, m := range marks[1:] {
		if _, e := emit.Ops(m, nil); e != api.OK {
			t.Errorf("P24.1: %v: %d", m, e)
		}
	}
	if _, e := emit.Emit(marks, many[:64]); e != api.OK {
		t.Errorf("P24.2: 64 fonts: %d", e)
	}
}

func TestEmit(t *testing.T) {
	for _, c := range []struct{ in, want string }{
		{"", ""}, {"1 w BT /F 2 Tf (AB) Tj ET /X Do", "q 1 w 2 0 0 2 0 0 cm BT /F 1 Tf <41> Tj ET Q q 1 w 2 0 0 2 1 0 cm BT /F 1 Tf <42> Tj ET Q q 1 w 1 0 0 1 0 0 cm /X Do Q"},
	} {
		l, e := emit.Emit(see(t, c.in), fonts())
		if got := printed(t, l); got != c.want || e != api.OK {
			t.Errorf("P24.2: %q: %s, %d, want %s", c.in, got, e, c.want)
		}
	}
	marks := slices.Repeat(see(t, "/X Do"), 4097)
	if l, e := emit.Emit(marks[1:], nil); len(l) != 4096*4 || e != api.OK {
		t.Errorf("P24.2: 4096 marks: %d, %d", len(l), e)
	}
	for _, f := range [][]api.Named{nil, append(fonts(), fonts()[0])} {
		if l, e := emit.Emit(marks, f); l != nil || e != api.ErrLong {
			t.Errorf("P24.2: 4097 marks: %d, %d", len(l), e)
		}
	}
	if l, e := emit.Emit(make([]api.Mark, 4097), nil); l != nil || e != api.ErrLong {
		t.Errorf("P24.2: 4097 marks of no kind: %d, %d", len(l), e)
	}
}

func numberOf(t *testing.T, s string) api.Dec {
	t.Helper()
	d, e := dec.Parse(s)
	if e != api.OK {
		t.Fatalf("P1.2: %q: %d", s, e)
	}
	return d
}

func area(t *testing.T, s string) api.Box {
	t.Helper()
	w := strings.Fields(s)
	return api.Box{X0: numberOf(t, w[0]), Y0: numberOf(t, w[1]), X1: numberOf(t, w[2]), Y1: numberOf(t, w[3])}
}

func TestCover(t *testing.T) {
	for _, c := range []struct{ in, want string }{
		{"0 0 1 1", "q 0 g 1 0 0 1 0 0 cm 0 0 1 1 re f Q"}, {"1 2 4 8", "q 0 g 1 0 0 1 0 0 cm 1 2 3 6 re f Q"}, {"-5 -6.5 -4.25 7", "q 0 g 1 0 0 1 0 0 cm -5 -6.5 0.75 13.5 re f Q"}, {"3 3 3 3", "q 0 g 1 0 0 1 0 0 cm 3 3 0 0 re f Q"}, {"0.000000001 0 1 0", "q 0 g 1 0 0 1 0 0 cm 0.000000001 0 0.999999999 0 re f Q"},
		{"999999999999999998 -999999999999999999 999999999999999999 0", "q 0 g 1 0 0 1 0 0 cm 999999999999999998 -999999999999999999 1 999999999999999999 re f Q"}, {"-500000000000000000 0 499999999999999999 0", "q 0 g 1 0 0 1 0 0 cm -500000000000000000 0 999999999999999999 0 re f Q"},
	} {
		b := area(t, c.in)
		m, e := emit.Cover(b)
		if e != api.OK || m.Box != b || m.Kind != api.MarkPath {
			t.Errorf("P24.3: %s: %v, %d", c.in, m, e)
			continue
		}
		l, e := emit.Ops(m, nil)
		if got := printed(t, l); got != c.want || e != api.OK {
			t.Errorf("P24.4: %s: %s, %d, want %s", c.in, got, e, c.want)
		}
		if again, e := view.See(l, nil); !same(again, []api.Mark{m}) || e != api.OK {
			t.Errorf("P24.4: %s: %v, %d", c.in, again, e)
		}
	}
	for _, s := range []string{"-500000000000000000 0 500000000000000000 0", "0 -500000000000000000 0 500000000000000000", "-999999999999999999 0 999999999999999999 0", "0 0.000000001 0 1000000001", "0.000000001 0 1000000001 0", "-1000000000 0 0.000000001 0"} {
		if m, e := emit.Cover(area(t, s)); !reflect.DeepEqual(m, api.Mark{}) || e != api.ErrOver {
			t.Errorf("P24.3: %s: %v, %d", s, m, e)
		}
	}
	for _, b := range []api.Box{area(t, "1 0 0 0"), area(t, "0 1 0 0"), area(t, "999999999999999999 0 -999999999999999999 0"), {X0: api.Dec{S: 1}}, {Y1: api.Dec{M: math.MaxInt}}, {X1: api.Dec{M: 10, S: 1}}, {Y0: api.Dec{S: -1}}} {
		if m, e := emit.Cover(b); !reflect.DeepEqual(m, api.Mark{}) || e != api.ErrArg {
			t.Errorf("P24.3: %v: %v, %d", b, m, e)
		}
	}
}

// someContent returns a content with any marks.
func someContent(r *rand.Rand) string {
	n := func() string { return strconv.Itoa(r.Intn(9)-4) + []string{"", ".5", ".125"}[r.Intn(3)] }
	s := ""
	for range r.Intn(8) {
		s += []string{n() + " w ", n() + " g ", n() + " G ", "1 0 1 rg ", "0 1 0 RG ", "[ 1 2 ] 0 d ", "/P ri ", "2 Tr ", "0 Tr ", n() + " " + n() + " " + n() + " " + n() + " 5 6 cm ", "/X Do ", "BI /W 1 ID x EI ", n() + " " + n() + " " + n() + " " + n() + " re b ",
			n() + " " + n() + " m 1 2 l 1 2 3 4 y h S ", "BT /F " + n() + " Tf " + n() + " Tc " + n() + " 3 Td (AB A) Tj T* [ (A) 5 (B) ] TJ ET ", "BT /W 3 Tf 80 Tz " + n() + " Ts (ABCD) Tj ET "}[r.Intn(16)]
	}
	return s
}

func TestEmittedMarksAreSeen(t *testing.T) {
	r := rand.New(rand.NewSource(24))
	seen := 0
	for range 3000 {
		s := someContent(r)
		marks, e := view.See(parse(t, s), fonts())
		if e == api.ErrOver {
			continue
		}
		if e != api.OK {
			t.Fatalf("P21.1: %q: %d", s, e)
		}
		if r.Intn(3) == 0 {
			b, _ := box.Of([]api.Point{{X: api.Dec{M: r.Intn(99), S: 0}, Y: api.Dec{M: -r.Intn(9)}}, {X: api.Dec{M: 5, S: 1}, Y: api.Dec{M: 7, S: 3}}})
			cover, e := emit.Cover(b)
			if e != api.OK {
				t.Fatalf("P24.3: %v: %d", b, e)
			}
			marks = append(marks, cover)
		}
		l, e := emit.Emit(marks, fonts())
		if e != api.OK {
			t.Fatalf("P24.4: %q: %d", s, e)
		}
		again, e := view.See(l, fonts())
		if !same(again, marks) || e != api.OK {
			t.Fatalf("P24.4: %q: %v, %d, want %v", s, again, e, marks)
		}
		var single []api.Op
		for _, m := range marks {
			o, e := emit.Ops(m, fonts())
			if e != api.OK {
				t.Fatalf("P24.1: %q: %d", s, e)
			}
			single = append(single, o...)
		}
		if printed(t, single) != printed(t, l) {
			t.Fatalf("P24.2: %q: %v, want %v", s, l, single)
		}
		seen += len(marks)
	}
	if seen < 5000 {
		t.Errorf("only %d marks", seen)
	}
}

func TestArgumentsAreKept(t *testing.T) {
	in := "1 w 2 g 1 1 m 2 2 l S BT /F 1 Tf (A) Tj ET BI /W 1 ID x EI /X Do"
	marks, f := see(t, in), fonts()
	l, e := emit.Emit(marks[:3], f[:2])
	one, _ := emit.Ops(marks[0], f[:2])
	if e != api.OK {
		t.Fatal(e)
	}
	for _, x := range [][]api.Op{l, one} {
		for _, o := range x {
			clear(o.Args)
			_ = append(o.Args, api.Obj{Kind: api.ObjNum})
		}
		clear(x)
	}
	if !same(marks, see(t, in)) || !reflect.DeepEqual(f, fonts()) {
		t.Errorf("R2: %v, %v", marks, f)
	}
	a, _ := emit.Cover(api.Box{})
	clear(a.Ops[0].Args)
	clear(a.State)
	if b, _ := emit.Cover(api.Box{}); len(b.Ops) != 2 || b.Ops[0].Args[0].Kind != api.ObjNum || b.State[0].Name != "g" {
		t.Errorf("R2: %v", b)
	}
}
