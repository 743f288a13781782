package view_test

import (
	"math"
	"reflect"
	"slices"
	"strings"
	"testing"

	"erasure/api"
	"erasure/view"
)

// refuse tells whether See of a content has the error want, and no marks with it.
func refuse(t *testing.T, s string, want api.Errno) {
	t.Helper()
	l, e := view.See(parse(t, s), fonts())
	if e != want || e != api.OK && l != nil {
		t.Errorf("P21.1: %.120q (%d bytes): %d marks, %d, want %d", s, len(s), len(l), e, want)
	}
}

// operators are all of them, each with operands that it may have.
func operators() []string {
	return []string{
		"q", "Q", "1 0 0 1 0 0 cm", "1 w", "1 i", "1 M", "1 J", "1 j", "1 g", "1 G", "1 1 1 rg", "1 1 1 RG", "1 1 1 1 k", "1 1 1 1 K", "[ 1 ] 1 d", "/A ri",
		"1 1 m", "1 1 1 1 re", "1 1 l", "1 1 1 1 1 1 c", "1 1 1 1 v", "1 1 1 1 y", "h", "S", "s", "f", "F", "f*", "B", "B*", "b", "b*", "n",
		"BT", "ET", "1 Tc", "1 Tw", "1 Tz", "1 TL", "1 Ts", "1 Tr", "/F 1 Tf", "1 1 Td", "1 1 TD", "1 0 0 1 1 1 Tm", "T*", "(a) Tj", "(a) '", "1 1 (a) \"", "[ (a) 1 ] TJ", "/X Do", "BI ID x EI", "/A BMC", "/A MP", "/A 1 BDC", "/A 1 DP", "EMC",
	}
}

// The operators that are allowed at the beginning, with a state saved, within a text object, and within a path; and what they leave.
func TestPlaces(t *testing.T) {
	settings := "w i M J j g G rg RG k K d ri Tc Tw Tz TL Ts Tr Tf BMC MP BDC DP EMC"
	paths := "m re l c v y h S s f F f* B B* b b* n"
	for _, c := range []struct{ before, allowed string }{
		{"", settings + " q cm m re BT Do BI"},
		{"q", settings + " q Q cm m re BT Do BI"},
		{"/F 1 Tf BT", settings + " ET Td TD Tm T* Tj ' \" TJ"},
		{"q /F 1 Tf BT", settings + " ET Td TD Tm T* Tj ' \" TJ"},
		{"1 1 m", paths + " BMC MP BDC DP EMC"}, {"1 1 1 1 re", paths + " BMC MP BDC DP EMC"}, {"q 1 1 m h", paths + " BMC MP BDC DP EMC"},
		{"1 1 m S", settings + " q cm m re BT Do BI"}, {"1 1 m n", settings + " q cm m re BT Do BI"}, {"BT ET", settings + " q cm m re BT Do BI"}, {"q Q", settings + " q cm m re BT Do BI"},
	} {
		for _, o := range operators() {
			want := api.ErrForm
			words := strings.Fields(o)
			name := words[len(words)-1]
			if name == "EI" {
				name = "BI"
			}
			allowed := slices.Contains(strings.Fields(c.allowed), name)
			// An operator that is listed nowhere tells whether the one ahead of it was reached.
			if allowed {
				want = api.ErrKind
			}
			refuse(t, c.before+" "+o+" x", want)
		}
	}
}

func TestEnds(t *testing.T) {
	for _, s := range []string{"q", "q q Q", "BT", "1 1 m", "1 1 1 1 re", "1 1 m 1 1 l", "q BT ET", "q 1 1 m S", "BT ET BT", "1 1 m S 1 1 m", "1 1 m n 1 1 m", "1 1 m h"} {
		refuse(t, s, api.ErrForm)
	}
}

func TestOperands(t *testing.T) {
	before := map[string]string{"Q": "q", "l": "1 1 m", "c": "1 1 m", "v": "1 1 m", "y": "1 1 m", "h": "1 1 m", "S": "1 1 m", "s": "1 1 m", "f": "1 1 m", "F": "1 1 m", "f*": "1 1 m", "B": "1 1 m", "B*": "1 1 m", "b": "1 1 m", "b*": "1 1 m", "n": "1 1 m",
		"ET": "BT", "Td": "BT", "TD": "BT", "Tm": "BT", "T*": "BT", "Tj": "/F 1 Tf BT", "'": "/F 1 Tf BT", "\"": "/F 1 Tf BT", "TJ": "/F 1 Tf BT"}
	kinds := []string{"1", "(a)", "/F", "[ 1 ]", "[ (a) ]", "[ /F ]", "[ [ ] ]", "[ ]", "<< >>", "true", "null"}
	for _, o := range operators() {
		words := parse(t, o)
		name, args := words[0].Name, words[0].Args
		if name == "BI" {
			continue
		}
		in := before[name] + " "
		refuse(t, in+o+" x", api.ErrKind)
		refuse(t, in+"1 "+o+" x", api.ErrForm)
		refuse(t, in+strings.TrimSuffix(o, name)+"1 "+name+" x", api.ErrForm)
		if len(args) > 0 {
			refuse(t, in+name+" x", api.ErrForm)
			l := append(parse(t, in), api.Op{Name: name, Args: args[1:]}, api.Op{Name: "x"})
			if _, e := view.See(l, fonts()); e != api.ErrForm {
				t.Errorf("P21.1: %q without its first operand: %d", o, e)
			}
		}
		for i, a := range args {
			for _, kind := range kinds {
				l := append([]api.Op{}, parse(t, in)...)
				changed := slices.Clone(args)
				changed[i] = parse(t, kind+" x")[0].Args[0]
				want := api.ErrForm
				if fits(name, a, changed[i]) {
					want = api.ErrKind
				}
				l = append(l, api.Op{Name: name, Args: changed}, api.Op{Name: "x"})
				if _, e := view.See(l, fonts()); e != want {
					t.Errorf("P21.1: %q with %s as its operand %d: %d, want %d", o, kind, i, e, want)
				}
			}
		}
	}
}

// fits tells whether an operator may have b in place of its operand a.
func fits(name string, a, b api.Obj) bool {
	switch {
	case (name == "BDC" || name == "DP") && a.Kind == api.ObjNum:
		return true
	case a.Kind != api.ObjList:
		return a.Kind == b.Kind
	case b.Kind != api.ObjList:
		return false
	}
	for _, p := range b.Parts {
		if p.Kind != api.ObjNum && (p.Kind != api.ObjText || name != "TJ") {
			return false
		}
	}
	return true
}

func TestErrors(t *testing.T) {
	deep := strings.Repeat("q ", 32)
	for _, c := range []struct {
		in   string
		want api.Errno
	}{
		// Operators that are not listed.
		{"x", api.ErrKind}, {"W", api.ErrKind}, {"W*", api.ErrKind}, {"gs", api.ErrKind}, {"sh", api.ErrKind}, {"cs", api.ErrKind}, {"scn", api.ErrKind}, {"d0", api.ErrKind}, {"d1", api.ErrKind}, {"BX", api.ErrKind}, {"EX", api.ErrKind}, {"tj", api.ErrKind}, {"QQ", api.ErrKind}, {"1 1 m W n", api.ErrKind}, {"BT 1 x ET", api.ErrKind},
		// Modes.
		{"0 Tr 1 Tr 2 Tr 3 Tr", api.OK}, {"4 Tr", api.ErrKind}, {"7 Tr", api.ErrKind}, {"5 Tr", api.ErrKind}, {"8 Tr", api.ErrForm}, {"-1 Tr", api.ErrForm}, {"1.5 Tr", api.ErrForm}, {"4.5 Tr", api.ErrForm}, {"1 1 m 4 Tr", api.ErrForm}, {"BT 4 Tr", api.ErrKind},
		// States.
		{deep + strings.Repeat("Q ", 32), api.OK}, {deep + "q", api.ErrDeep}, {deep + "Q q q", api.ErrDeep}, {deep + "BT q", api.ErrForm}, {deep + "1 q", api.ErrForm}, {"q Q Q", api.ErrForm},
		// Fonts.
		{"/G 1 Tf", api.ErrNone}, {"/f 1 Tf", api.ErrNone}, {"/ 1 Tf", api.ErrNone}, {"1 1 m /G 1 Tf", api.ErrForm}, {"BT (A) Tj", api.ErrNone}, {"BT () Tj", api.ErrNone}, {"BT () '", api.ErrNone}, {"BT 1 1 () \"", api.ErrNone}, {"BT [ () ] TJ", api.ErrNone}, {"BT [ 1 ] TJ ET", api.OK}, {"q /F 1 Tf Q BT () Tj", api.ErrNone},
		{"/W 1 Tf BT (A) Tj x", api.ErrForm}, {"/W 1 Tf BT (AAA) ' x", api.ErrForm}, {"/W 1 Tf BT [ (AA) (A) ] TJ x", api.ErrForm}, {"/W 1 Tf BT () Tj ET", api.OK},
		// Images.
		{"/ Do", api.ErrForm}, {"/#20 Do", api.OK},
		// The first error on the way.
		{"x /G 1 Tf", api.ErrKind}, {"/G 1 Tf x", api.ErrNone}, {"Q x", api.ErrForm}, {"BT BT x", api.ErrForm}, {"q x", api.ErrKind}, {"/F 1 Tf BT [ (A) (A) /A ] TJ", api.ErrForm}, {"BT [ () /A ] TJ", api.ErrForm}, {"BT [ 1 () ] TJ", api.ErrNone},
	} {
		refuse(t, c.in, c.want)
	}
}

func TestNumbersThatAreNotRepresentable(t *testing.T) {
	const great, small = "999999999999999999", "0.000000001"
	for _, s := range []string{
		great + " 0 0 1 0 0 cm 2 0 0 1 0 0 cm", small + " 0 0 1 0 0 cm 0.1 0 0 1 0 0 cm", "1 0 0 1 " + great + " 0 cm 1 0 0 1 1 0 cm", "1 0 0 1 " + great + " 0 cm /X Do", "0 0 0 1 0 " + great + " cm BI ID x EI",
		great + " 0 1 1 re f", "1 " + great + " 1 1 re f", great + " 1 1 0 re s", "2 0 0 2 0 0 cm " + great + " 0 m S", "1 0 0 1 1 1 cm 0 " + great + " m S", small + " 0 0 1 0 0 cm 0.1 0 m S", great + " 0 0 1 0 0 cm 1 0 m S 0 0 m 1 1 2 2 2 3 c S",
		"BT " + great + " 0 Td 1 0 Td", "BT 0 " + great + " Td 0 1 TD", "BT " + great + " TL 0 -1 Td T*", "BT 1 0 0 1 0 " + great + " Tm -1 TL T*", "BT " + small + " 0 0 1 0 0 Tm 0.1 0 Td",
		"BT /F 1 Tf 0.00000001 Tz (A) Tj", "BT /F " + small + " Tf (A) Tj", "BT /F " + great + " Tf 200 Tz (A) Tj", "BT /F " + great + " Tf (A) Tj 1 1 Td (A) Tj", "BT /F 0.00000001 Tf 1 Tz (C) Tj",
		"BT /F 1 Tf " + great + " Tc (A) Tj", "BT /F 2 Tf " + great + " Tw ( ) Tj", "BT /F 1 Tf " + great + " Tc 200 Tz (C) Tj", "BT /F 1 Tf " + great + " Ts (C) Tj", "2 0 0 1 0 0 cm BT /F 1 Tf " + great + " 0 0 1 0 0 Tm (A) Tj",
		"BT /F 1 Tf [ " + small + " ] TJ", "BT /F " + great + " Tf [ 2000 ] TJ", "BT /F 1000 Tf 200 Tz [ " + great + " ] TJ", "BT 0.00000001 Tz [ 0 ] TJ", "BT /F 10 Tf 1 0 0 1 " + great + " 0 Tm [ -1000 ] TJ", "BT /F 1 Tf " + great + " TL 0 -1 Td (A) '", "BT /F 1 Tf " + great + " TL 0 -1 Td 1 1 (A) \"",
	} {
		refuse(t, s+" x", api.ErrOver)
	}
	// Numbers are taken as long as nothing is computed with them.
	for _, s := range []string{"0.00000001 Tz /F 1 Tf BT () Tj ET", "0.00000001 Tz BT [ ] TJ ET", "/F " + small + " Tf", great + " Tc " + great + " Tw " + great + " TL " + great + " Ts /F " + great + " Tf BT ET", great + " " + great + " " + great + " " + great + " re n", "2 0 0 2 0 0 cm " + great + " 0 m n",
		"/F 1 Tf " + great + " Tw BT (C) Tj ET", "/W 1 Tf " + great + " Tw BT (\\000 ) Tj ET", "BT -" + great + " 0 Td " + great + " 0 Td ET", "-" + great + " TL BT 0 1 TD 0 0 Td ET", great + " w [ " + great + " ] " + small + " d"} {
		refuse(t, s, api.OK)
	}
	// Errors of a string come ahead of those of its codes.
	refuse(t, "0.00000001 Tz /W 1 Tf BT (AAA) Tj", api.ErrForm)
	refuse(t, "0.00000001 Tz BT (A) Tj", api.ErrNone)
}

func TestLimits(t *testing.T) {
	path := "1 1 m " + strings.Repeat("h ", 4095)
	for _, c := range []struct {
		in   string
		want api.Errno
	}{
		{path + "S", api.OK}, {path + "n", api.OK}, {path + "h", api.ErrLong}, {path + "1 1 m", api.ErrLong}, {path + "1 1 1 1 re", api.ErrLong}, {path + "1 1 l", api.ErrLong}, {path + "1 h", api.ErrForm}, {path + "BMC", api.ErrForm}, {path + "/A BMC S", api.OK}, {path + "S " + path + "S", api.OK}, {path + "n " + path + "S", api.OK},
	} {
		refuse(t, c.in, c.want)
	}
	if l := see(t, path+"S"); len(l) != 1 || strings.Count(l[0], ", ") != 4097 {
		t.Errorf("P21.1: %d marks of a long path", len(l))
	}
	// 65535 and 65536 operators, and one more.
	for _, c := range []struct {
		n    int
		want api.Errno
	}{{65535, api.OK}, {65536, api.OK}, {65537, api.ErrLong}} {
		if l, e := view.See(slices.Repeat([]api.Op{{Name: "EMC"}}, c.n), nil); len(l) != 0 || e != c.want {
			t.Errorf("P21.1: %d operators: %d", c.n, e)
		}
	}
	if _, e := view.See(append(slices.Repeat([]api.Op{{Name: "x"}}, 65536), api.Op{}), nil); e != api.ErrArg {
		t.Errorf("P21.1: an operator that is not valid behind too many: %d", e)
	}
	if _, e := view.See(slices.Repeat([]api.Op{{Name: "x"}}, 65537), nil); e != api.ErrLong {
		t.Errorf("P21.1: too many operators that are not listed: %d", e)
	}
}

func TestMarksAreLimited(t *testing.T) {
	most := "/F 0 Tf BT (" + strings.Repeat("C", 65535) + ") Tj "
	for _, c := range []struct {
		in   string
		want api.Errno
	}{
		{"(C) Tj ET", api.OK}, {"(CC) Tj ET", api.ErrLong}, {"ET /X Do", api.OK}, {"ET /X Do /X Do", api.ErrLong}, {"(C) Tj ET BI ID x EI", api.ErrLong}, {"(C) Tj ET 1 1 m S", api.ErrLong}, {"(C) Tj ET 1 1 m n", api.OK}, {"(C) Tj () Tj [ 1 ] TJ ET EMC", api.OK},
		{"(C) Tj ET x", api.ErrKind}, {"(C) Tj ET / Do", api.ErrForm}, {"(C) Tj /W 1 Tf (A) Tj", api.ErrForm}, {"(C) Tj 0.00000001 Tz (C) Tj", api.ErrOver}, {"(C) Tj ET 999999999999999999 0 1 1 re S", api.ErrOver},
	} {
		l, e := view.See(parse(t, most+c.in), fonts())
		if e != c.want || e == api.OK && len(l) != 65536 || e != api.OK && l != nil {
			t.Errorf("P21.1: 65535 marks and %q: %d marks, %d, want %d", c.in, len(l), e, c.want)
		}
	}
}

// named returns n fonts of different names.
func named(n int) []api.Named {
	var l []api.Named
	for i := range n {
		l = append(l, api.Named{Name: strings.Repeat("F", i)})
	}
	return l
}

func TestArgumentsOfSee(t *testing.T) {
	bad := append(fonts(), api.Named{Name: "G", Font: api.Font{Other: -1}})
	for _, c := range []struct {
		name  string
		l     []api.Op
		fonts []api.Named
		want  api.Errno
	}{
		{"nothing", nil, nil, api.OK}, {"64 fonts", nil, named(64), api.OK}, {"65 fonts", nil, named(65), api.ErrArg}, {"a name twice", nil, append(fonts(), fonts()[0]), api.ErrArg}, {"a font that is not valid", nil, bad, api.ErrArg}, {"fonts ahead of operators", []api.Op{{Name: "x"}}, bad, api.ErrArg},
		{"no name", []api.Op{{}}, nil, api.ErrArg}, {"a name that is none", []api.Op{{Name: "true"}}, nil, api.ErrArg}, {"a reference", []api.Op{{Name: "q", Args: []api.Obj{{Kind: api.ObjRef, Ref: 1}}}}, nil, api.ErrArg}, {"not valid, behind others", []api.Op{{Name: "x"}, {Name: "Q"}, {Name: "1"}}, nil, api.ErrArg},
		{"an image without its dictionary", []api.Op{{Name: "BI"}}, nil, api.ErrArg}, {"a number that is not valid", []api.Op{{Name: "w", Args: []api.Obj{{Kind: api.ObjNum, Num: api.Dec{M: 10, S: 1}}}}}, nil, api.ErrArg}, {"not listed", []api.Op{{Name: "x"}}, nil, api.ErrKind},
	} {
		if l, e := view.See(c.l, c.fonts); l != nil || e != c.want {
			t.Errorf("P21.1: %s: %v, %d, want %d", c.name, l, e, c.want)
		}
	}
	// A font without a name is a font.
	l, e := view.See(parse(t, "/ 1 Tf BT (A) Tj ET"), named(1))
	if len(l) != 1 || l[0].Name != "" || e != api.OK {
		t.Errorf("P21.1: %v, %d", l, e)
	}
}

func TestBox(t *testing.T) {
	glyph := func(name string, code int) api.Mark { return api.Mark{Kind: api.MarkGlyph, Name: name, Code: code} }
	path := func(s string) api.Mark { return api.Mark{Kind: api.MarkPath, Ops: parse(t, s)} }
	with := func(m api.Mark, s string) api.Mark {
		l := parse(t, s+" cm")[0].Args
		m.M = api.Mat{A: l[0].Num, B: l[1].Num, C: l[2].Num, D: l[3].Num, E: l[4].Num, F: l[5].Num}
		return m
	}
	image := api.Mark{Kind: api.MarkImage}
	for _, c := range []struct {
		name string
		m    api.Mark
		want string
		e    api.Errno
	}{
		{"a glyph", with(glyph("F", 65), "10 0 0 10 5 7"), "5 4 10 17", api.OK}, {"a glyph that turns", with(glyph("F", 65), "0 10 -10 0 0 0"), "-10 0 3 5", api.OK}, {"a code that the font does not have", with(glyph("F", 67), "1 0 0 1 0 0"), "0 -0.3 0 1", api.OK}, {"a code of the others", with(glyph("W", 67), "1 0 0 1 0 0"), "0 -0.3 0.4 1", api.OK},
		{"a code that is none", with(glyph("F", 65536), "1 0 0 1 0 0"), "0 -0.3 0 1", api.OK}, {"a code that is none, of the others", with(glyph("W", -1), "1 0 0 1 0 0"), "0 -0.3 0.4 1", api.OK}, {"a point", glyph("F", 65), "0 0 0 0", api.OK},
		{"no such font", glyph("G", 65), "", api.ErrArg}, {"no such font, too great", with(glyph("G", 65), "999999999999999999 0 0 1 1 0"), "", api.ErrArg}, {"too great", with(glyph("W", 65), "999999999999999999 999999999999999999 999999999999999999 1 0 0"), "", api.ErrOver},
		{"an image", with(image, "1 2 3 4 5 6"), "5 6 9 12", api.OK}, {"an image with a name and operators", with(api.Mark{Kind: api.MarkImage, Name: "X", Ops: []api.Op{{}}}, "2 0 0 2 0 0"), "0 0 2 2", api.OK}, {"an image that is too great", with(image, "999999999999999999 0 0 1 1 0"), "", api.ErrOver},
		{"a path", with(path("1 1 m 3 4 l S"), "2 0 0 2 0 0"), "2 2 6 8", api.OK}, {"a path that begins with a line", with(path("3 4 l f*"), "1 0 0 1 0 0"), "3 4 3 4", api.OK}, {"every kind of curve", with(path("1 1 2 2 3 9 c 0 1 2 3 v 5 5 -4 5 y h b*"), "1 0 0 1 0 0"), "-4 1 5 9", api.OK}, {"a rectangle", with(path("5 6 -7 8 re n 1 S"), "1 0 0 1 0 0"), "", api.ErrArg},
		{"rectangles", with(path("5 6 -7 8 re 1 2 3 4 re b"), "1 0 0 1 0 0"), "-2 2 5 14", api.OK}, {"a rectangle that turns", with(path("1 2 3 4 re B"), "0 1 -1 0 0 0"), "-6 1 -2 4", api.OK},
		{"no points", path("S"), "", api.ErrNone}, {"no points, but closed", path("h h s"), "", api.ErrNone}, {"no operators", api.Mark{Kind: api.MarkPath}, "", api.ErrArg}, {"nothing that paints", path("1 1 m"), "", api.ErrArg}, {"what drops", path("1 1 m n"), "", api.ErrArg}, {"operands of what paints", path("1 1 m 1 S"), "", api.ErrArg}, {"two that paint", path("1 1 m S S"), "", api.ErrArg},
		{"too few operands", path("1 m S"), "", api.ErrArg}, {"too many operands", path("1 1 1 l S"), "", api.ErrArg}, {"operands that are no numbers", path("1 (a) m S"), "", api.ErrArg}, {"an operator of no path", path("1 1 m 1 w S"), "", api.ErrArg}, {"an operator that is not listed", path("x S"), "", api.ErrArg}, {"the last one not listed", path("1 1 m x"), "", api.ErrArg}, {"a mark", path("1 1 m /A BMC S"), "", api.ErrArg},
		{"an operator that is not valid", api.Mark{Kind: api.MarkPath, Ops: []api.Op{{Name: "m", Args: []api.Obj{{Kind: api.ObjNum, Num: api.Dec{M: 10, S: 1}}, {Kind: api.ObjNum}}}, {Name: "S"}}}, "", api.ErrArg}, {"operands of closing", path("1 h S"), "", api.ErrArg},
		{"a rectangle that is too great", path("999999999999999999 0 1 1 re S"), "", api.ErrOver}, {"too great ahead of what is no path", path("999999999999999999 0 1 1 re 1 m S"), "", api.ErrArg}, {"a point that is too great", with(path("999999999999999999 0 m S"), "2 0 0 2 0 0"), "", api.ErrOver},
		{"no kind", api.Mark{}, "", api.ErrArg}, {"another kind", api.Mark{Kind: 4}, "", api.ErrArg}, {"the least kind", api.Mark{Kind: math.MinInt}, "", api.ErrArg}, {"a matrix that is not valid", api.Mark{Kind: api.MarkImage, M: api.Mat{F: api.Dec{M: 10, S: 1}}}, "", api.ErrArg}, {"a path without points by one", api.Mark{Kind: api.MarkPath, M: api.Mat{A: api.Dec{S: 1}}, Ops: []api.Op{{Name: "S"}}}, "", api.ErrArg},
	} {
		b, e := view.Box(c.m, fonts())
		if e != c.e || e == api.OK && boxText(b) != c.want || e != api.OK && b != (api.Box{}) {
			t.Errorf("P21.2: %s: %s, %d, want %s, %d", c.name, boxText(b), e, c.want, c.e)
		}
	}
	for _, l := range [][]api.Named{named(65), append(fonts(), fonts()[1]), append(fonts(), api.Named{Name: "G", Font: api.Font{Other: 10001}})} {
		if b, e := view.Box(image, l); b != (api.Box{}) || e != api.ErrArg {
			t.Errorf("P21.2: fonts that are not valid: %v, %d", b, e)
		}
	}
	if _, e := view.Box(image, nil); e != api.OK {
		t.Errorf("P21.2: no fonts: %d", e)
	}
}

func TestArgumentsAreKept(t *testing.T) {
	in := "1 w 2 g q 3 M /X Do Q 1 1 m 2 2 l S /F 1 Tf BT (AA) Tj ET BI ID x EI 4 w EMC"
	l, f := parse(t, in), fonts()
	marks, e := view.See(l[:len(l)-1], f[:1])
	if e != api.OK {
		t.Fatal(e)
	}
	for _, m := range marks {
		view.Box(m, f[:1])
		clear(m.State)
		clear(m.Ops)
		_ = append(m.State, api.Op{Name: "?"})
		_ = append(m.Ops, api.Op{Name: "?"})
	}
	if !reflect.DeepEqual(l, parse(t, in)) || !reflect.DeepEqual(f, fonts()) {
		t.Errorf("R2: %v, %v", l, f)
	}
	again, _ := view.See(l[:len(l)-1], f[:1])
	first := []string{}
	for i := range again {
		first = append(first, told(again[i]))
		clear(again[i].State)
	}
	if got := see(t, in); !slices.Equal(got, first) {
		t.Errorf("R2: %q, want %q", first, got)
	}
}
