package cut_test

import (
	"math"
	"math/rand"
	"reflect"
	"slices"
	"strconv"
	"strings"
	"testing"

	"erasure/api"
	"erasure/box"
	"erasure/cut"
	"erasure/font"
)

func area(x0, y0, x1, y1 int) api.Box {
	return api.Box{X0: api.Dec{M: x0}, Y0: api.Dec{M: y0}, X1: api.Dec{M: x1}, Y1: api.Dec{M: y1}}
}

func glyph(name string, code int, b api.Box) api.Mark {
	return api.Mark{Kind: api.MarkGlyph, Name: name, Code: code, Box: b}
}

func path(b api.Box) api.Mark {
	return api.Mark{Kind: api.MarkPath, Box: b, Ops: []api.Op{{Name: "S"}}, State: []api.Op{{Name: "w"}}}
}

func image(name string, b api.Box) api.Mark {
	return api.Mark{Kind: api.MarkImage, Name: name, Box: b}
}

// wrongBoxes are not valid.
func wrongBoxes() []api.Box {
	return []api.Box{area(1, 0, 0, 0), area(0, 1, 0, 0), {X0: api.Dec{S: 1}}, {Y1: api.Dec{M: 10, S: 1}}, {X1: api.Dec{M: math.MaxInt}}, {Y0: api.Dec{M: -1, S: -1}}}
}

// fonts are F, in which 1 to 5 mean a, nothing, ffi, € and half a pair; G, in which 1 means b; and W, a wide one, in which 258 means c, and all others are 300 wide.
func fonts() []api.Named {
	return []api.Named{
		{Name: "F", Font: api.Font{Glyphs: []api.Glyph{{Code: 1, Width: 100, Text: "\x00a"}, {Code: 2, Width: 200}, {Code: 3, Text: "\x00f\x00f\x00i"}, {Code: 4, Text: "\x20\xac"}, {Code: 5, Text: "\xd8\x00"}, {Code: 65, Text: "\x00A"}, {Code: 66, Text: "\x00B"}}}},
		{Name: "G", Font: api.Font{Glyphs: []api.Glyph{{Code: 1, Width: 400, Text: "\x00b"}}}},
		{Name: "W", Font: api.Font{Wide: true, Other: 300, Glyphs: []api.Glyph{{Code: 258, Width: 100, Text: "\x00c"}}}},
	}
}

func TestCut(t *testing.T) {
	half := func(m int) api.Dec { return api.Dec{M: m, S: 9} }
	a, b, c := glyph("F", 1, area(0, 0, 1, 1)), path(area(2, 0, 3, 1)), image("", area(4, 0, 5, 1))
	named := image("X", area(0, 0, 9, 9))
	for _, x := range []struct {
		name    string
		l       []api.Mark
		regions []api.Box
		want    []api.Mark
	}{
		{"nothing", nil, nil, nil}, {"nothing, but regions", nil, []api.Box{area(0, 0, 1, 1)}, nil}, {"no regions", []api.Mark{a, b, c, named}, nil, []api.Mark{a, b, c, named}}, {"a glyph", []api.Mark{a, b, c}, []api.Box{area(0, 0, 1, 1)}, []api.Mark{b, c}}, {"a path", []api.Mark{a, b, c}, []api.Box{area(2, 0, 3, 1)}, []api.Mark{a, c}}, {"an image", []api.Mark{a, b, c}, []api.Box{area(4, 0, 5, 1)}, []api.Mark{a, b}},
		{"images with names stay", []api.Mark{named, a, image("Y", area(0, 0, 1, 1)), image("", area(0, 0, 1, 1))}, []api.Box{area(0, 0, 1, 1)}, []api.Mark{named, image("Y", area(0, 0, 1, 1))}}, {"all", []api.Mark{a, b, c}, []api.Box{area(-9, -9, 9, 9)}, nil}, {"two regions", []api.Mark{a, b, c}, []api.Box{area(0, 0, 0, 0), area(5, 1, 9, 9)}, []api.Mark{b}}, {"none that meets", []api.Mark{a, b, c}, []api.Box{area(0, 2, 9, 9), area(7, 0, 9, 9)}, []api.Mark{a, b, c}},
		{"the last of many", []api.Mark{a, b}, []api.Box{area(7, 7, 8, 8), area(9, 9, 9, 9), area(1, 1, 1, 1)}, []api.Mark{b}}, {"twice the same", []api.Mark{a, a, b, a, b}, []api.Box{area(2, 0, 2, 0)}, []api.Mark{a, a, a}},
		// Marks that only touch a region, and those that just don't.
		{"at the left", []api.Mark{a}, []api.Box{area(-1, 0, 0, 1)}, nil}, {"at the right", []api.Mark{a}, []api.Box{area(1, 0, 2, 1)}, nil}, {"above", []api.Mark{a}, []api.Box{area(0, 1, 1, 2)}, nil}, {"below", []api.Mark{a}, []api.Box{area(0, -1, 1, 0)}, nil}, {"at a corner", []api.Mark{a}, []api.Box{area(1, 1, 2, 2)}, nil}, {"a point within", []api.Mark{a}, []api.Box{{X0: half(500000001), Y0: half(500000001), X1: half(500000001), Y1: half(500000001)}}, nil},
		{"just at the right", []api.Mark{a}, []api.Box{{X0: half(1000000001), X1: api.Dec{M: 2}, Y1: api.Dec{M: 1}}}, []api.Mark{a}}, {"just above", []api.Mark{a}, []api.Box{{Y0: half(1000000001), X1: api.Dec{M: 2}, Y1: api.Dec{M: 2}}}, []api.Mark{a}}, {"just at the left", []api.Mark{a}, []api.Box{{X0: api.Dec{M: -1}, X1: half(-1), Y1: api.Dec{M: 1}}}, []api.Mark{a}}, {"just below", []api.Mark{a}, []api.Box{{Y0: api.Dec{M: -1}, X1: api.Dec{M: 2}, Y1: half(-1)}}, []api.Mark{a}},
	} {
		l, e := cut.Cut(x.l, x.regions)
		if len(l) != len(x.want) || len(l) > 0 && !reflect.DeepEqual(l, x.want) || e != api.OK {
			t.Errorf("P23.1: %s: %v, %d, want %v", x.name, l, e, x.want)
		}
	}
}

func TestCutRefuses(t *testing.T) {
	good := []api.Mark{glyph("F", 1, area(0, 0, 1, 1)), path(area(2, 0, 3, 1))}
	for _, b := range wrongBoxes() {
		for _, regions := range [][]api.Box{{b}, {area(0, 0, 9, 9), b}, {b, area(0, 0, 9, 9)}} {
			for _, marks := range [][]api.Mark{nil, good} {
				if l, e := cut.Cut(marks, regions); l != nil || e != api.ErrArg {
					t.Errorf("P23.1: the region %v: %v, %d", b, l, e)
				}
			}
		}
		for _, m := range []api.Mark{glyph("F", 1, b), path(b), image("", b), image("X", b)} {
			for _, marks := range [][]api.Mark{{m}, append(slices.Clone(good), m), append([]api.Mark{m}, good...)} {
				for _, regions := range [][]api.Box{nil, {area(0, 0, 9, 9)}} {
					if l, e := cut.Cut(marks, regions); l != nil || e != api.ErrArg {
						t.Errorf("P23.1: a mark of kind %d in %v: %v, %d", m.Kind, b, l, e)
					}
				}
			}
		}
	}
	for _, kind := range []int{0, 4, -1, math.MaxInt, math.MinInt} {
		if l, e := cut.Cut(append(slices.Clone(good), api.Mark{Kind: kind, Name: "X", Box: area(0, 0, 1, 1)}), nil); l != nil || e != api.ErrArg {
			t.Errorf("P23.1: kind %d: %v, %d", kind, l, e)
		}
	}
}

func TestUsed(t *testing.T) {
	one := area(0, 0, 1, 1)
	l := []api.Mark{glyph("F", 9, one), glyph("G", 7, one), glyph("F", 1, wrongBoxes()[0]), image("F", one), {Kind: api.MarkPath, Name: "F", Code: 3}, glyph("F", 9, one), glyph("", 5, one), glyph("F", -2, one), {Kind: 0, Name: "F", Code: 4}, {Kind: 4, Name: "F", Code: 6}, glyph("F", 70000, one), glyph("F", 1, one)}
	for name, want := range map[string][]int{"F": {-2, 1, 9, 70000}, "G": {7}, "": {5}, "H": nil, "f": nil} {
		if got := cut.Used(l, name); !slices.Equal(got, want) {
			t.Errorf("P23.2: %q: %v, want %v", name, got, want)
		}
	}
	if got := cut.Used(nil, "F"); len(got) != 0 {
		t.Errorf("P23.2: %v", got)
	}
}

func TestFonts(t *testing.T) {
	one := area(0, 0, 1, 1)
	f, g, w := fonts()[0].Font, fonts()[1].Font, fonts()[2].Font
	for _, c := range []struct {
		name  string
		fonts []api.Named
		l     []api.Mark
		want  []api.Named
	}{
		{"nothing", nil, nil, nil}, {"no glyphs", fonts(), []api.Mark{path(one), image("F", one), {Kind: api.MarkPath, Name: "G"}}, nil}, {"no fonts, and no glyphs", nil, []api.Mark{path(one), image("F", one)}, nil},
		{"one", fonts(), []api.Mark{glyph("F", 3, one), glyph("F", 1, one), glyph("F", 3, one)}, []api.Named{{Name: "F", Font: api.Font{Glyphs: []api.Glyph{f.Glyphs[0], f.Glyphs[2]}}}}}, {"in their order", fonts(), []api.Mark{glyph("W", 258, one), glyph("G", 1, one), path(one)}, []api.Named{{Name: "G", Font: g}, {Name: "W", Font: api.Font{Wide: true, Glyphs: w.Glyphs}}}},
		{"codes that a font does not have", fonts(), []api.Mark{glyph("F", 200, one), glyph("W", 5, one), glyph("W", 258, one)}, []api.Named{{Name: "F"}, {Name: "W", Font: api.Font{Wide: true, Glyphs: []api.Glyph{{Code: 5, Width: 300}, w.Glyphs[0]}}}}}, {"codes that are none", fonts(), []api.Mark{glyph("F", 256, one), glyph("W", 65536, one), glyph("W", -1, one)}, []api.Named{{Name: "F"}, {Name: "W", Font: api.Font{Wide: true}}}},
		{"marks of no kind", fonts(), []api.Mark{{Kind: 0, Name: "H"}, {Kind: 9, Name: "H", Box: wrongBoxes()[0]}, image("H", one)}, nil}, {"boxes are not asked for", fonts(), []api.Mark{glyph("G", 1, wrongBoxes()[0])}, []api.Named{{Name: "G", Font: g}}}, {"a font without a name", []api.Named{{Font: g}}, []api.Mark{glyph("", 1, one)}, []api.Named{{Font: g}}},
	} {
		l, e := cut.Fonts(c.fonts, c.l)
		same := slices.EqualFunc(l, c.want, func(a, b api.Named) bool {
			return a.Name == b.Name && a.Font.Wide == b.Font.Wide && a.Font.Other == b.Font.Other && slices.Equal(a.Font.Glyphs, b.Font.Glyphs)
		})
		if !same || e != api.OK {
			t.Errorf("P23.2: %s: %v, %d, want %v", c.name, l, e, c.want)
		}
	}
}

// wrongFonts are lists that are not valid.
func wrongFonts() map[string][]api.Named {
	many := []api.Named{{Name: "F"}}
	for i := range 64 {
		many = append(many, api.Named{Name: "X" + strconv.Itoa(i)})
	}
	return map[string][]api.Named{"65 fonts": many, "a name twice": append(fonts(), fonts()[0]), "a font that is not valid": append(fonts(), api.Named{Name: "H", Font: api.Font{Other: -1}}), "no name twice": append(fonts(), api.Named{}, api.Named{})}
}

func TestFontsThatAreMissing(t *testing.T) {
	one := area(0, 0, 1, 1)
	for name, l := range wrongFonts() {
		for _, marks := range [][]api.Mark{nil, {glyph("F", 1, one)}, {glyph("F", 5, one)}} {
			if f, e := cut.Fonts(l, marks); f != nil || e != api.ErrArg {
				t.Errorf("P23.2: %s: %v, %d", name, f, e)
			}
			if s, e := cut.Text(marks, l); s != "" || e != api.ErrArg {
				t.Errorf("P23.3: %s: %q, %d", name, s, e)
			}
			if b, e := cut.Find(marks, l, "a"); b != nil || e != api.ErrArg {
				t.Errorf("P23.3: %s: %v, %d", name, b, e)
			}
		}
	}
	for _, marks := range [][]api.Mark{{glyph("H", 1, one)}, {glyph("F", 1, one), glyph("", 1, one)}, {glyph("F", 5, one), glyph("f", 1, one)}} {
		if f, e := cut.Fonts(fonts(), marks); f != nil || e != api.ErrArg {
			t.Errorf("P23.2: %v: %v, %d", marks, f, e)
		}
		if s, e := cut.Text(marks, fonts()); s != "" || e != api.ErrArg {
			t.Errorf("P23.3: %v: %q, %d", marks, s, e)
		}
		if b, e := cut.Find(marks, fonts(), "a"); b != nil || e != api.ErrArg {
			t.Errorf("P23.3: %v: %v, %d", marks, b, e)
		}
	}
	if f, e := cut.Fonts(nil, []api.Mark{glyph("F", 1, one)}); f != nil || e != api.ErrArg {
		t.Errorf("P23.2: no fonts: %v, %d", f, e)
	}
}

// row returns glyphs that stand side by side, each one wide, with other marks in between.
func row(words string) []api.Mark {
	var l []api.Mark
	for i, w := range strings.Fields(words) {
		b := area(i, 0, i+1, 1)
		if w == "-" {
			l = append(l, path(b))
			continue
		}
		code, _ := strconv.Atoi(w[1:])
		l = append(l, glyph(w[:1], code, b))
	}
	return l
}

func TestText(t *testing.T) {
	for _, c := range []struct {
		marks, want string
		e           api.Errno
	}{
		{"", "", api.OK}, {"F1", "a", api.OK}, {"F1 G1 F1 W258", "abac", api.OK}, {"F2 F1 F200 F2", "a", api.OK}, {"- F3 - F4 -", "ffi€", api.OK}, {"W1 W65535", "", api.OK}, {"-", "", api.OK}, {"F256 F1 W70000", "a", api.OK},
		{"F5", "", api.ErrForm}, {"F1 F5 F1", "", api.ErrForm}, {"F5 H1", "", api.ErrArg},
	} {
		if s, e := cut.Text(row(c.marks), fonts()); s != c.want || e != c.e {
			t.Errorf("P23.3: %s: %q, %d, want %q, %d", c.marks, s, e, c.want, c.e)
		}
	}
	// Marks that are no glyphs, whatever they hold.
	others := []api.Mark{image("F", area(0, 0, 1, 1)), {Kind: api.MarkPath, Name: "H", Code: 1}, {Kind: 7, Name: "F", Code: 1}, {Kind: api.MarkImage, Name: "F", Code: 1}, {Name: "F", Code: 5}}
	if s, e := cut.Text(others, fonts()); s != "" || e != api.OK {
		t.Errorf("P23.3: %q, %d", s, e)
	}
	if b, e := cut.Find(others, fonts(), "a"); len(b) != 0 || e != api.OK {
		t.Errorf("P23.3: %v, %d", b, e)
	}
}

func TestFind(t *testing.T) {
	for _, c := range []struct {
		marks, text string
		want        []api.Box
		e           api.Errno
	}{
		{"F65 F66", "AB", []api.Box{area(0, 0, 2, 1)}, api.OK}, {"F65 F66", "A", []api.Box{area(0, 0, 1, 1)}, api.OK}, {"F65 F66", "B", []api.Box{area(1, 0, 2, 1)}, api.OK}, {"F65 F66", "BA", nil, api.OK}, {"F65 F66", "ABC", nil, api.OK}, {"", "A", nil, api.OK}, {"-", "A", nil, api.OK},
		// More than once, without overlaps.
		{"F1 F1 F1 F1", "a", []api.Box{area(0, 0, 1, 1), area(1, 0, 2, 1), area(2, 0, 3, 1), area(3, 0, 4, 1)}, api.OK}, {"F1 F1 F1", "aa", []api.Box{area(0, 0, 2, 1)}, api.OK}, {"F1 F1 F1 F1 F1", "aa", []api.Box{area(0, 0, 2, 1), area(2, 0, 4, 1)}, api.OK}, {"F1 G1 F1 G1 F1", "aba", []api.Box{area(0, 0, 3, 1)}, api.OK}, {"F1 G1 F66 F1 G1", "ab", []api.Box{area(0, 0, 2, 1), area(3, 0, 5, 1)}, api.OK},
		// Across other marks and codes without a text: these contribute nothing.
		{"F1 - G1", "ab", []api.Box{area(0, 0, 3, 1)}, api.OK}, {"F2 F1 F2", "a", []api.Box{area(1, 0, 2, 1)}, api.OK}, {"F1 F2 F2 G1 F2", "ab", []api.Box{area(0, 0, 4, 1)}, api.OK}, {"F2 - F1 - F2 F2 F1", "a", []api.Box{area(2, 0, 3, 1), area(6, 0, 7, 1)}, api.OK},
		// A part of what a glyph stands for.
		{"F1 F3 G1", "f", []api.Box{area(1, 0, 2, 1), area(1, 0, 2, 1)}, api.OK}, {"F1 F3 G1", "af", []api.Box{area(0, 0, 2, 1)}, api.OK}, {"F1 F3 G1", "ib", []api.Box{area(1, 0, 3, 1)}, api.OK}, {"F1 F3 G1", "affib", []api.Box{area(0, 0, 3, 1)}, api.OK}, {"F3 F3", "if", []api.Box{area(0, 0, 2, 1)}, api.OK}, {"F3 F3 F3", "iff", []api.Box{area(0, 0, 2, 1), area(1, 0, 3, 1)}, api.OK},
		// Bytes that are no characters of their own.
		{"F4 F4", "\xac", []api.Box{area(0, 0, 1, 1), area(1, 0, 2, 1)}, api.OK}, {"F4 F4", "\xac\xe2", []api.Box{area(0, 0, 2, 1)}, api.OK}, {"F4", "€", []api.Box{area(0, 0, 1, 1)}, api.OK}, {"F4", "\x00", nil, api.OK}, {"F1 W258", "ac", []api.Box{area(0, 0, 2, 1)}, api.OK},
		{"", "", nil, api.ErrArg}, {"F1", "", nil, api.ErrArg}, {"F5", "", nil, api.ErrArg}, {"F5", "a", nil, api.ErrForm}, {"F1 F5", "a", nil, api.ErrForm}, {"F5 H1", "a", nil, api.ErrArg},
	} {
		b, e := cut.Find(row(c.marks), fonts(), c.text)
		if !slices.Equal(b, c.want) || e != c.e {
			t.Errorf("P23.3: %q in %s: %v, %d, want %v, %d", c.text, c.marks, b, e, c.want, c.e)
		}
	}
	// Boxes that do not lie in a row.
	l := []api.Mark{glyph("F", 65, area(5, 5, 6, 6)), glyph("F", 66, area(-3, 8, -2, 9)), glyph("F", 1, area(0, 0, 0, 0))}
	if b, e := cut.Find(l, fonts(), "ABa"); !slices.Equal(b, []api.Box{area(-3, 0, 6, 9)}) || e != api.OK {
		t.Errorf("P23.3: %v, %d", b, e)
	}
}

// Boxes are asked for only where they are needed.
func TestFindAmongWrongBoxes(t *testing.T) {
	for _, bad := range wrongBoxes() {
		for _, c := range []struct {
			at   int
			text string
			want api.Errno
		}{
			{0, "A", api.ErrArg}, {1, "A", api.OK}, {0, "B", api.OK}, {1, "B", api.ErrArg}, {0, "AB", api.ErrArg}, {1, "AB", api.ErrArg}, {2, "AB", api.OK}, {2, "a", api.ErrArg}, {2, "Ba", api.ErrArg}, {3, "aA", api.OK}, {3, "ABaA", api.OK}, {4, "A", api.ErrArg}, {4, "AB", api.OK}, {0, "C", api.OK}, {5, "A", api.OK},
		} {
			l := row("F65 F66 F1 F2 F65 -")
			l[c.at].Box = bad
			b, e := cut.Find(l, fonts(), c.text)
			if e != c.want || e != api.OK && b != nil || e == api.OK && (len(b) == 0) != (c.text == "C") {
				t.Errorf("P23.3: %q, glyph %d in %v: %v, %d, want %d", c.text, c.at, bad, b, e, c.want)
			}
		}
	}
}

// The example of the chapter.
func TestExample(t *testing.T) {
	l := []api.Mark{glyph("F", 65, area(0, 0, 1, 1)), glyph("F", 66, area(2, 0, 3, 1))}
	if b, e := cut.Find(l, fonts(), "AB"); !slices.Equal(b, []api.Box{area(0, 0, 3, 1)}) || e != api.OK {
		t.Errorf("P23.3: %v, %d", b, e)
	}
	left, e := cut.Cut(l, []api.Box{area(0, 0, 1, 1)})
	if !slices.Equal(cut.Used(left, "F"), []int{66}) || e != api.OK {
		t.Errorf("P23.1: %v, %d", left, e)
	}
}

// some returns random marks within a square of 20.
func some(r *rand.Rand) []api.Mark {
	var l []api.Mark
	for range r.Intn(12) {
		x, y := r.Intn(20), r.Intn(20)
		b := area(x, y, x+r.Intn(4), y+r.Intn(4))
		switch r.Intn(4) {
		case 0:
			l = append(l, path(b))
		case 1:
			l = append(l, image([]string{"", "X"}[r.Intn(2)], b))
		default:
			l = append(l, glyph([]string{"F", "G", "W"}[r.Intn(3)], []int{1, 2, 3, 4, 65, 258}[r.Intn(6)], b))
		}
	}
	return l
}

func TestProperties(t *testing.T) {
	r := rand.New(rand.NewSource(23))
	cutAll := func(l []api.Mark, regions []api.Box) []api.Mark {
		out, e := cut.Cut(l, regions)
		if e != api.OK {
			t.Fatalf("P23.1: %v, %v: %d", l, regions, e)
		}
		return append([]api.Mark{}, out...)
	}
	for range 2000 {
		l := append([]api.Mark{}, some(r)...)
		var regions []api.Box
		for range r.Intn(4) {
			x, y := r.Intn(20), r.Intn(20)
			regions = append(regions, area(x, y, x+r.Intn(6), y+r.Intn(6)))
		}
		left := cutAll(l, regions)
		if !reflect.DeepEqual(cutAll(left, regions), left) || !reflect.DeepEqual(cutAll(l, nil), l) {
			t.Fatalf("P23.4: %v, %v: twice", l, regions)
		}
		step := l
		for _, b := range regions {
			step = cutAll(step, []api.Box{b})
		}
		if !reflect.DeepEqual(step, left) {
			t.Fatalf("P23.4: %v, %v: one after the other", l, regions)
		}
		next := 0
		for _, m := range l {
			meets := slices.ContainsFunc(regions, func(b api.Box) bool { yes, _ := box.Meets(b, m.Box); return yes })
			if meets && (m.Kind != api.MarkImage || m.Name == "") {
				continue
			}
			if next >= len(left) || !reflect.DeepEqual(left[next], m) {
				t.Fatalf("P23.4: %v, %v: %v is not left", l, regions, m)
			}
			next++
		}
		if next != len(left) {
			t.Fatalf("P23.4: %v, %v: %v is left", l, regions, left)
		}
		reduced, e := cut.Fonts(fonts(), left)
		if e != api.OK {
			t.Fatalf("P23.2: %v: %d", left, e)
		}
		a, e := cut.Text(left, fonts())
		if b, f := cut.Text(left, reduced); a != b || e != api.OK || f != api.OK {
			t.Fatalf("P23.4: %v: %q, %d, and %q, %d", left, a, e, b, f)
		}
		for _, m := range left {
			for i := range reduced {
				if m.Kind == api.MarkGlyph && reduced[i].Name == m.Name && font.Find(reduced[i].Font, m.Code) != font.Find(fonts()[strings.Index("FGW", m.Name)].Font, m.Code) {
					t.Fatalf("P23.4: %v: %v", left, reduced)
				}
			}
		}
		checkFound(t, left)
	}
}

// checkFound holds what Find tells of some texts against a search, byte by byte.
func checkFound(t *testing.T, l []api.Mark) {
	t.Helper()
	whole, _ := cut.Text(l, fonts())
	var owners []api.Box // of each byte
	for _, m := range l {
		s, _ := cut.Text([]api.Mark{m}, fonts())
		for range len(s) {
			owners = append(owners, m.Box)
		}
	}
	for _, text := range []string{"a", "f", "ff", "fi", "ia", "ab", "€", "A", "aa", whole} {
		var want []api.Box
		for i := 0; text != "" && i+len(text) <= len(whole); i++ {
			if whole[i:i+len(text)] != text {
				continue
			}
			b := owners[i]
			for _, o := range owners[i : i+len(text)] {
				b, _ = box.Both(b, o)
			}
			want = append(want, b)
			i += len(text) - 1
		}
		if got, e := cut.Find(l, fonts(), text); text != "" && (!slices.Equal(got, want) || e != api.OK) {
			t.Fatalf("P23.3: %q in %q: %v, %d, want %v", text, whole, got, e, want)
		}
	}
}

func TestArgumentsAreKept(t *testing.T) {
	l := row("F1 - F3 W258 G1 F1")
	kept := row("F1 - F3 W258 G1 F1")
	regions := []api.Box{area(1, 0, 1, 0), area(4, 0, 4, 0), area(0, 0, 9, 9)}
	f := fonts()
	left, _ := cut.Cut(l[:5], regions[:2])
	clear(left)
	left, _ = cut.Cut(l[:5], nil)
	clear(left)
	_ = append(left, api.Mark{})
	reduced, _ := cut.Fonts(f[:3], l[:5])
	for i := range reduced {
		clear(reduced[i].Font.Glyphs)
		_ = append(reduced[i].Font.Glyphs, api.Glyph{})
	}
	clear(reduced)
	found, _ := cut.Find(l[:5], f, "a")
	clear(found)
	clear(cut.Used(l, "F"))
	if !reflect.DeepEqual(l, kept) || !reflect.DeepEqual(f, fonts()) || !slices.Equal(regions, []api.Box{area(1, 0, 1, 0), area(4, 0, 4, 0), area(0, 0, 9, 9)}) {
		t.Errorf("R2: %v, %v, %v", l, f, regions)
	}
}
