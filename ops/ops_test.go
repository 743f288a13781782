package ops_test

import (
	"math"
	"math/rand"
	"slices"
	"strings"
	"testing"

	"erasure/api"
	"erasure/obj"
	"erasure/ops"
)

func num(m, s int) api.Obj             { return api.Obj{Kind: api.ObjNum, Num: api.Dec{M: m, S: s}} }
func name(t string) api.Obj            { return api.Obj{Kind: api.ObjName, Text: t} }
func text(t string) api.Obj            { return api.Obj{Kind: api.ObjText, Text: t} }
func boolean(b bool) api.Obj           { return api.Obj{Kind: api.ObjBool, Bool: b} }
func ref(n int) api.Obj                { return api.Obj{Kind: api.ObjRef, Ref: n} }
func null() api.Obj                    { return api.Obj{} }
func list(l ...api.Obj) api.Obj        { return api.Obj{Kind: api.ObjList, Parts: l} }
func op(n string, l ...api.Obj) api.Op { return api.Op{Name: n, Args: l} }
func repeat(s string, n int) string    { return strings.Repeat(s, n) }

// dict returns a dictionary of keys, separated by blanks, and of what stands there.
func dict(keys string, parts ...api.Obj) api.Obj {
	return api.Obj{Kind: api.ObjDict, Keys: strings.Fields(keys), Parts: parts}
}

func image(d api.Obj, data string) api.Op { return op("BI", d, text(data)) }

// nested returns a list in which depth lists are nested, this one included.
func nested(depth int) api.Obj {
	o := list()
	for range depth - 1 {
		o = list(o)
	}
	return o
}

func sameObjs(a, b []api.Obj) bool {
	return slices.EqualFunc(a, b, func(x, y api.Obj) bool {
		return x.Kind == y.Kind && x.Bool == y.Bool && x.Num == y.Num && x.Text == y.Text && x.Ref == y.Ref && slices.Equal(x.Keys, y.Keys) && sameObjs(x.Parts, y.Parts)
	})
}

func same(a, b []api.Op) bool {
	return slices.EqualFunc(a, b, func(x, y api.Op) bool { return x.Name == y.Name && sameObjs(x.Args, y.Args) })
}

func TestParse(t *testing.T) {
	for _, c := range []struct {
		in   string
		want []api.Op
	}{
		{"", nil}, {" \x00\t\n\f\r", nil}, {"% nothing", nil}, {"%a\n%b\r", nil},
		{"q", []api.Op{op("q")}}, {" q\n", []api.Op{op("q")}}, {"q%x\nQ", []api.Op{op("q"), op("Q")}}, {"q Q", []api.Op{op("q"), op("Q")}}, {"q\x00Q", []api.Op{op("q"), op("Q")}},
		{"q 1 0 0 1 5 5 cm (a) Tj Q", []api.Op{op("q"), op("cm", num(1, 0), num(0, 0), num(0, 0), num(1, 0), num(5, 0), num(5, 0)), op("Tj", text("a")), op("Q")}},
		{"1 %x\r2 %(\n m", []api.Op{op("m", num(1, 0), num(2, 0))}},
		{"/A(b)<43>[1]<</D 2>>x", []api.Op{op("x", name("A"), text("b"), text("C"), list(num(1, 0)), dict("D", num(2, 0)))}},
		{"true false null x", []api.Op{op("x", boolean(true), boolean(false), null())}}, {"true'null\"", []api.Op{op("true'null\"")}}, {"(a)'(b)\"", []api.Op{op("'", text("a")), op("\"", text("b"))}},
		{"[true[null]<</A[false]>>]x", []api.Op{op("x", list(boolean(true), list(null()), dict("A", list(boolean(false)))))}},
		{"1 0 r", []api.Op{op("r", num(1, 0), num(0, 0))}}, {"-1.50 +.5 x", []api.Op{op("x", num(-15, 1), num(5, 1))}}, {"T* f* B* b*", []api.Op{op("T*"), op("f*"), op("B*"), op("b*")}},
		{"True Null nul", []api.Op{op("True"), op("Null"), op("nul")}}, {"1 x 2 x", []api.Op{op("x", num(1, 0)), op("x", num(2, 0))}}, {"q/A x", []api.Op{op("q"), op("x", name("A"))}}, {"/ x", []api.Op{op("x", name(""))}},
		{"id ei bi r Bi IDx", []api.Op{op("id"), op("ei"), op("bi"), op("r"), op("Bi"), op("IDx")}}, {repeat("x", 127), []api.Op{op(repeat("x", 127))}},
		{"<</B 1/A 2>>x", []api.Op{op("x", dict("A B", num(2, 0), num(1, 0)))}}, {repeat("[", 32) + repeat("]", 32) + "x", []api.Op{op("x", nested(32))}},
	} {
		l, e := ops.Parse([]byte(c.in))
		if !same(l, c.want) || e != api.OK {
			t.Errorf("P20.1: %.80q: %v, %d, want %v", c.in, l, e, c.want)
		}
	}
}

func TestParseImages(t *testing.T) {
	one := dict("W", num(1, 0))
	for _, c := range []struct {
		in   string
		want []api.Op
	}{
		{"BI ID x EI", []api.Op{image(dict(""), "x")}}, {"BI/W 1 ID x EI Q", []api.Op{image(one, "x"), op("Q")}}, {"BI/W 1ID x EI", nil}, {"q BI%(\n/W%)\n1%\n ID\nx\nEI\nQ", []api.Op{op("q"), image(one, "x"), op("Q")}},
		// The first byte behind ID belongs to neither side.
		{"BI ID  EI", []api.Op{image(dict(""), "")}}, {"BI ID\r\nEI", []api.Op{image(dict(""), "")}}, {"BI ID EI EI", []api.Op{image(dict(""), "EI")}}, {"BI ID EI  EI", []api.Op{image(dict(""), "EI ")}},
		{"BI ID   EI", []api.Op{image(dict(""), " ")}}, {"BI ID\x00\x00\x00EI\x00", []api.Op{image(dict(""), "\x00")}}, {"BI ID\f\tEI\fQ", []api.Op{image(dict(""), ""), op("Q")}},
		{"BI ID xEI EI", []api.Op{image(dict(""), "xEI")}}, {"BI ID x EIx EI", []api.Op{image(dict(""), "x EIx")}}, {"BI ID x EI(EI) E I EI\n", []api.Op{image(dict(""), "x EI(EI) E I")}}, {"BI ID x EI%\n EI", []api.Op{image(dict(""), "x EI%\n")}},
		{"BI ID (<[\xff\x80%) EI q", []api.Op{image(dict(""), "(<[\xff\x80%)"), op("q")}}, {"BI ID x EI EI EI", nil}, {"BI ID x\vEI EI", []api.Op{image(dict(""), "x\vEI")}},
		{"BI ID a EI BI ID b EI", []api.Op{image(dict(""), "a"), image(dict(""), "b")}}, {"1 x BI ID a EI 2 x", []api.Op{op("x", num(1, 0)), image(dict(""), "a"), op("x", num(2, 0))}},
		{"BI/W 1/A[/B]/C<</D(e)>>/N null/T true/ 5 ID x EI", []api.Op{image(api.Obj{Kind: api.ObjDict, Keys: []string{"", "A", "C", "N", "T", "W"}, Parts: []api.Obj{num(5, 0), list(name("B")), dict("D", text("e")), null(), boolean(true), num(1, 0)}}, "x")}},
		{"BI/I " + repeat("[", 31) + repeat("]", 31) + " ID x EI", []api.Op{image(dict("I", nested(31)), "x")}}, {"BI ID " + repeat("x", 65535) + " EI", []api.Op{image(dict(""), repeat("x", 65535))}},
	} {
		l, e := ops.Parse([]byte(c.in))
		if c.want == nil {
			if l != nil || e != api.ErrForm {
				t.Errorf("P20.1: %.80q: %v, %d, want ErrForm", c.in, l, e)
			}
		} else if !same(l, c.want) || e != api.OK {
			t.Errorf("P20.1: %.80q: %v, %d, want %v", c.in, l, e, c.want)
		}
	}
}

func TestParseTellsErrors(t *testing.T) {
	numbers, names := repeat("1 ", 4096), ""
	for i := range 4096 {
		names += "/" + repeat("a", i/64) + repeat("b", i%64) + " 1"
	}
	deep, tooDeep := repeat("[", 32)+repeat("]", 32), repeat("[", 33)+repeat("]", 33)
	for _, c := range []struct {
		in   string
		want api.Errno
	}{
		// Contents that end too early.
		{"1", api.ErrForm}, {"q 1", api.ErrForm}, {"(a)", api.ErrForm}, {"true", api.ErrForm}, {"null", api.ErrForm}, {"q[1", api.ErrForm}, {"[", api.ErrForm}, {"<<", api.ErrForm}, {"<</A", api.ErrForm}, {"<</A 1", api.ErrForm}, {"(a", api.ErrForm}, {"<41", api.ErrForm},
		{"1 q 2", api.ErrForm}, {"/A", api.ErrForm}, {"[]%", api.ErrForm}, {"BI", api.ErrForm}, {"BI ", api.ErrForm}, {"BI/A", api.ErrForm}, {"BI/A 1", api.ErrForm}, {"BI ID", api.ErrForm}, {"BI ID ", api.ErrForm}, {"BI ID x", api.ErrForm}, {"BI ID x ", api.ErrForm}, {"BI ID x E", api.ErrForm}, {"BI ID xEI", api.ErrForm}, {"BI ID EI", api.ErrForm},
		{"BI/A[ ID x EI", api.ErrForm}, {"BI/A[", api.ErrForm}, {"BI/A<<", api.ErrForm},
		// What may not stand there.
		{"]", api.ErrForm}, {">>", api.ErrForm}, {"q]", api.ErrForm}, {")", api.ErrForm}, {"{", api.ErrForm}, {"}", api.ErrForm}, {"[q]x", api.ErrForm}, {"<<1 2>>x", api.ErrForm}, {"<</A 1/A 2>>x", api.ErrForm}, {"/#00 x", api.ErrForm}, {"<4g>x", api.ErrForm},
		{"ID", api.ErrForm}, {"EI", api.ErrForm}, {"R", api.ErrForm}, {"1 ID", api.ErrForm}, {"1 EI", api.ErrForm}, {"q EI", api.ErrForm}, {"0 0 R", api.ErrForm}, {"1.5 0 R", api.ErrForm}, {"(a)R", api.ErrForm}, {"1 BI ID x EI", api.ErrForm}, {"null BI ID x EI", api.ErrForm}, {"1 BI(", api.ErrForm},
		// References.
		{"1 0 R x", api.ErrForm}, {"1 1 R x", api.ErrForm}, {"[1 0 R]x", api.ErrForm}, {"<</A 1 0 R>>x", api.ErrForm}, {"[[<</A[1 0 R]>>]]x", api.ErrForm}, {"5 8388607 0 R x", api.ErrForm}, {"BI/A 1 0 R ID x EI", api.ErrForm}, {"BI/A[1 0 R] ID x EI", api.ErrForm}, {numbers + "1 0 R", api.ErrForm},
		// Errors of tokens and objects.
		{"1000000000000000000 x", api.ErrOver}, {"[0.0000000001]x", api.ErrOver}, {repeat("x", 128), api.ErrLong}, {"/" + repeat("x", 65536) + " x", api.ErrLong}, {"(" + repeat("x", 65536) + ")x", api.ErrLong}, {"[" + numbers + "1]x", api.ErrLong}, {tooDeep + "x", api.ErrDeep}, {repeat("<</A", 33), api.ErrDeep},
		{"[" + deep, api.ErrDeep}, {"x 1000000000000000000", api.ErrOver}, {"BI/A 1000000000000000000 ID x EI", api.ErrOver}, {"BI 1000000000000000000", api.ErrOver}, {"BI/A " + repeat("x", 128), api.ErrLong}, {"BI/A " + tooDeep + " ID x EI", api.ErrDeep}, {"BI(", api.ErrForm}, {"BI/" + repeat("x", 65536), api.ErrLong},
		// The first one on the way.
		{"x ) 1000000000000000000", api.ErrForm}, {"x 1000000000000000000 )", api.ErrOver}, {"1000000000000000000 1 0 R", api.ErrOver}, {"1 0 R 1000000000000000000", api.ErrForm}, {"1 1000000000000000000 R", api.ErrOver}, {"[1 0 R 1000000000000000000", api.ErrOver}, {tooDeep + "]", api.ErrDeep}, {"R 1000000000000000000", api.ErrForm},
		// Operands.
		{numbers + "x", api.OK}, {numbers + "1 x", api.ErrLong}, {numbers + "x " + numbers + "y", api.OK}, {numbers + "1000000000000000000", api.ErrOver}, {numbers + ")", api.ErrForm}, {numbers + "null x", api.ErrLong}, {numbers + "BI ID x EI", api.ErrForm}, {numbers + "[", api.ErrForm}, {numbers, api.ErrForm},
		// Inline images.
		{"BI 1 ID x EI", api.ErrForm}, {"BI/A 1 2 ID x EI", api.ErrForm}, {"BI x", api.ErrForm}, {"BI(A) 1 ID x EI", api.ErrForm}, {"BI true", api.ErrForm}, {"BI EI", api.ErrForm}, {"BI q", api.ErrForm}, {"BI[", api.ErrForm}, {"BI<<>> ID x EI", api.ErrForm}, {"BI/A/B/C ID x EI", api.ErrForm}, {"BI/A ID x EI", api.ErrForm}, {"BI/A 1/A 1 ID x EI", api.ErrForm}, {"BI/A 1/A 1000000000000000000", api.ErrForm},
		{"BI/A 1/#41 2 ID x EI", api.ErrForm}, {"BI/A null/A 1 ID x EI", api.ErrForm}, {"BI/ 1/ 1 ID x EI", api.ErrForm},
		{"BI" + names + " ID x EI", api.OK}, {"BI" + names + "/A 1 ID x EI", api.ErrLong}, {"BI" + names + "/A 1 0 R", api.ErrForm}, {"BI" + names + "/A 1000000000000000000", api.ErrOver}, {"BI" + names + "/ 1 ID x EI", api.ErrForm}, {"BI" + names + " 1", api.ErrForm}, {"BI" + names + "/A", api.ErrForm},
		{"BI/A " + deep + " ID x EI", api.ErrDeep}, {"BI/A " + deep + " ID", api.ErrDeep}, {"BI/A " + deep + " ID/", api.ErrDeep}, {"BI/A " + deep + " 1", api.ErrForm}, {"BI/A 1/B " + deep + "/C 1000000000000000000", api.ErrOver},
		{"BI ID/x EI", api.ErrForm}, {"BI ID(x) EI", api.ErrForm}, {"BI ID%\nx EI", api.ErrForm}, {"BI ID[ EI", api.ErrForm},
		{"BI ID " + repeat("x", 65536) + " EI", api.ErrLong}, {"BI ID " + repeat("x", 65536) + "EI", api.ErrForm}, {"BI ID " + repeat(" ", 65537) + "EI", api.ErrLong}, {"BI ID x EI 1", api.ErrForm}, {"BI ID x EI)", api.ErrForm}, {"BI ID x EI\x00BI", api.ErrForm},
	} {
		l, e := ops.Parse([]byte(c.in))
		if e != c.want || e != api.OK && l != nil {
			t.Errorf("P20.1: %.60q (%d bytes): %d operators, %d, want %d", c.in, len(c.in), len(l), e, c.want)
		}
	}
}

func TestOperatorsAreLimited(t *testing.T) {
	full := repeat("q ", 65536)
	for _, c := range []struct {
		in   string
		want api.Errno
	}{
		{full, api.OK}, {full + "q", api.ErrLong}, {full + "1", api.ErrForm}, {full + "1 q", api.ErrLong}, {full + "R", api.ErrForm}, {full + "BI", api.ErrLong}, {full + "1 BI", api.ErrForm}, {full + ")", api.ErrForm}, {full + "1000000000000000000 q", api.ErrOver}, {full + "BI(", api.ErrLong},
		{full[2:] + "BI ID x EI", api.OK}, {full[2:] + "BI ID x EI q", api.ErrLong}, {full[2:] + "BI ID x", api.ErrForm},
	} {
		l, e := ops.Parse([]byte(c.in))
		if e != c.want || e == api.OK && len(l) != 65536 || e != api.OK && l != nil {
			t.Errorf("P20.1: 65536 operators and %q: %d, %d, want %d", strings.TrimLeft(c.in, "q "), len(l), e, c.want)
		}
	}
	many := slices.Repeat([]api.Op{op("q")}, 65537)
	if s, e := ops.Print(many[1:]); s != repeat("q\n", 65536) || e != api.OK {
		t.Errorf("P20.2: %d bytes, %d", len(s), e)
	}
	if s, e := ops.Print(many); s != "" || e != api.ErrArg {
		t.Errorf("P20.2: %d bytes, %d", len(s), e)
	}
	many[0] = image(dict(""), " EI")
	if s, e := ops.Print(many); s != "" || e != api.ErrArg {
		t.Errorf("P20.2: %d bytes, %d", len(s), e)
	}
}

// right are valid operators, and how they are printed.
func right() map[string]api.Op {
	return map[string]api.Op{
		"q\n": op("q"), "T*\n": op("T*"), "'\n": op("'"), "1 0 x\n": op("x", num(1, 0), num(0, 0)), "-0.5 <61> /A true false null x\n": op("x", num(-5, 1), text("a"), name("A"), boolean(true), boolean(false), null()), "[ 1 [ ] ] << /A << >> >> x\n": op("x", list(num(1, 0), list()), dict("A", dict(""))),
		repeat("x", 127) + "\n": op(repeat("x", 127)), "\xff\n": op("\xff"), "nul\n": op("nul"), "r\n": op("r"), "id\n": op("id"), repeat("1 ", 4096) + "x\n": op("x", slices.Repeat([]api.Obj{num(1, 0)}, 4096)...), repeat("[ ", 32) + repeat("] ", 32) + "x\n": op("x", nested(32)), "/ <> x\n": op("x", name(""), text("")),
		"BI ID \nEI\n": image(dict(""), ""), "BI ID x\nEI\n": image(dict(""), "x"), "BI /A 1 /B [ /C ] ID \n\x00\xff\nEI\n": image(dict("A B", num(1, 0), list(name("C"))), "\n\x00\xff"), "BI /a#20b null ID EI\nEI\n": image(api.Obj{Kind: api.ObjDict, Keys: []string{"a b"}, Parts: []api.Obj{null()}}, "EI"),
		"BI / 1 ID EI \nEI\n": image(api.Obj{Kind: api.ObjDict, Keys: []string{""}, Parts: []api.Obj{num(1, 0)}}, "EI "), "BI ID xEI EIx EI(\nEI\n": image(dict(""), "xEI EIx EI("), "BI ID  E\nEI\n": image(dict(""), " E"), "BI ID " + repeat("x", 65535) + "\nEI\n": image(dict(""), repeat("x", 65535)),
		"BI /A " + repeat("[ ", 31) + repeat("] ", 31) + "ID x\nEI\n": image(dict("A", nested(31)), "x"),
	}
}

func TestCheckAndPrint(t *testing.T) {
	for want, o := range right() {
		if e := ops.Check(o); e != api.OK {
			t.Errorf("P20.2: Check of %.60q: %d", want, e)
		}
		s, e := ops.Print([]api.Op{o})
		if s != want || e != api.OK {
			t.Errorf("P20.2: %.60q, %d, want %.60q", s, e, want)
		}
		l, e := ops.Parse([]byte(s))
		if !same(l, []api.Op{o}) || e != api.OK {
			t.Errorf("P20.3: %.60q: %v, %d", s, l, e)
		}
	}
	if s, e := ops.Print(nil); s != "" || e != api.OK {
		t.Errorf("P20.2: %q, %d", s, e)
	}
	if s, e := ops.Print([]api.Op{op("q"), op("w", num(1, 0)), image(dict(""), "x"), op("Q")}); s != "q\n1 w\nBI ID x\nEI\nQ\n" || e != api.OK {
		t.Errorf("P20.2: %q, %d", s, e)
	}
}

// wrong are operators that are not valid.
func wrong() []api.Op {
	l := []api.Op{
		op("true"), op("false"), op("null"), op("ID"), op("EI"), op("R"), op("BI"), op("true", num(1, 0)), op("R", num(1, 0), num(0, 0)),
		op("x", ref(1)), op("x", num(1, 0), ref(1)), op("x", list(ref(1))), op("x", dict("A", ref(1))), op("x", list(list(dict("A", list(num(1, 0), ref(9)))))), op("x", ref(0)),
		op("x", slices.Repeat([]api.Obj{num(1, 0)}, 4097)...), op("x", nested(33)), op("x", num(10, 1)), op("x", num(1, 0), num(math.MaxInt, 0)), op("x", name("\x00")), op("x", name(repeat("x", 65536))), op("x", text(repeat("x", 65536))), op("x", api.Obj{Kind: -1}), op("x", api.Obj{Kind: 8}), op("x", api.Obj{Kind: api.ObjNull, Text: "x"}),
		op("x", dict("B A", num(1, 0), num(1, 0))), op("x", dict("A A", num(1, 0), num(1, 0))), op("x", dict("A")), op("x", api.Obj{Kind: api.ObjList, Keys: []string{"A"}}),
		op("BI", dict("")), op("BI", text("x")), op("BI", text("x"), dict("")), op("BI", dict(""), name("x")), op("BI", list(), text("x")), op("BI", dict(""), text("x"), text("y")), op("BI", null(), text("x")), op("BI", dict(""), null()), op("BI", dict("A", ref(1)), text("x")), op("BI", dict(""), text(repeat("x", 65536))), op("BI", dict("A", nested(32)), text("x")),
	}
	for _, n := range []string{"", "1", "-1.5", "1000000000000000000", "0.0000000001", "a b", " a", "a\n", "a\x00", "a(", "/a", "[", "]", "<<", "%", "a>", "{", "}", ")", repeat("x", 128)} {
		l = append(l, op(n))
	}
	return l
}

func TestCheckAndPrintRefuse(t *testing.T) {
	for i, o := range wrong() {
		if e := ops.Check(o); e != api.ErrArg {
			t.Errorf("P20.2: operator %d, %.40q: %d", i, o.Name, e)
		}
		for _, l := range [][]api.Op{{o}, {op("q"), o, op("Q")}, {image(dict(""), "x EI y"), o}} {
			if s, e := ops.Print(l); s != "" || e != api.ErrArg {
				t.Errorf("P20.2: operator %d, %.40q: %.40q, %d", i, o.Name, s, e)
			}
		}
	}
	for _, data := range []string{" EI", "\nEI ", "x EI y", "x\x00EI\x00y", " EI EIx", "EI EI", "EI\tEI\f", "\rEI", "xEI EI", repeat("x", 65532) + " EI"} {
		o := image(dict(""), data)
		if e := ops.Check(o); e != api.OK {
			t.Errorf("P20.2: Check of an image of %.40q: %d", data, e)
		}
		if s, e := ops.Print([]api.Op{op("q"), o, op("Q")}); s != "" || e != api.ErrForm {
			t.Errorf("P20.2: an image of %.40q: %.40q, %d", data, s, e)
		}
	}
}

// some returns a valid object without references.
func some(r *rand.Rand, depth int) api.Obj {
	kind := r.Intn(7)
	if depth == 0 && kind >= api.ObjList {
		kind = api.ObjNum
	}
	word := make([]byte, r.Intn(5))
	for i := range word {
		word[i] = byte(1 + r.Intn(255))
	}
	switch kind {
	case api.ObjBool:
		return boolean(r.Intn(2) == 0)
	case api.ObjNum:
		return num(r.Intn(30)-10, 0)
	case api.ObjName:
		return name(string(word))
	case api.ObjText:
		return text(string(word))
	case api.ObjList:
		o := list()
		for range r.Intn(4) {
			o.Parts = append(o.Parts, some(r, depth-1))
		}
		return o
	case api.ObjDict:
		return someDict(r, depth)
	}
	return null()
}

func someDict(r *rand.Rand, depth int) api.Obj {
	var keys []string
	for range r.Intn(4) {
		keys = append(keys, []string{"", "A", "B", "ID", "EI", "a b", "W", "\xff"}[r.Intn(8)])
	}
	slices.Sort(keys)
	o := api.Obj{Kind: api.ObjDict, Keys: slices.Compact(keys)}
	for range o.Keys {
		o.Parts = append(o.Parts, some(r, depth-1))
	}
	return o
}

func TestPrintedOperatorsAreParsed(t *testing.T) {
	r := rand.New(rand.NewSource(20))
	for range 3000 {
		var want []api.Op
		for range r.Intn(6) {
			if r.Intn(4) > 0 {
				o := op([]string{"q", "r", "cm", "'", "\"", "BX", "RI", "E", "\xff", "nulL", "R0"}[r.Intn(11)])
				for range r.Intn(5) {
					o.Args = append(o.Args, some(r, 3))
				}
				want = append(want, o)
				continue
			}
			data := ""
			for range r.Intn(12) {
				data += []string{" ", "\n", "\x00", "E", "I", "EI", "x", "ID"}[r.Intn(8)]
			}
			want = append(want, image(someDict(r, 3), data))
		}
		s, e := ops.Print(want)
		if refused := slices.ContainsFunc(want, holdsEnd); refused != (e == api.ErrForm) || !refused && e != api.OK {
			t.Fatalf("P20.2: %v: %d", want, e)
		}
		if e != api.OK {
			continue
		}
		l, e := ops.Parse([]byte(s))
		if !same(l, want) || e != api.OK {
			t.Fatalf("P20.3: %q: %v, %d, want %v", s, l, e, want)
		}
		if strings.Count(s, "BI ") > 0 {
			continue
		}
		// White space and comments make no difference where there is no image.
		l, e = ops.Parse([]byte("%x\r" + strings.NewReplacer(" ", "\n%(y\r\x00", "\n", " \f").Replace(s)))
		if !same(l, want) || e != api.OK {
			t.Fatalf("P20.1: %q: %v, %d, want %v", s, l, e, want)
		}
	}
}

// holdsEnd tells whether an image would end within its bytes.
func holdsEnd(o api.Op) bool {
	if o.Name != "BI" {
		return false
	}
	data := strings.Map(func(c rune) rune {
		if strings.ContainsRune("\x00\t\n\f\r", c) {
			return ' '
		}
		return c
	}, o.Args[1].Text+" ")
	return strings.Contains(data, " EI ")
}

// Whatever the bytes are, there is an answer; what is parsed is valid, and the same after printing.
func TestAnyBytes(t *testing.T) {
	r := rand.New(rand.NewSource(201))
	parts := []string{"BI", "ID", "EI", "R", " ", "\n", "/A", "/B", "1", "0", "[", "]", "<<", ">>", "(", ")", "<41>", "q", "true", "null", "%", "x", " EI "}
	parsed := 0
	for range 20000 {
		in := ""
		for range r.Intn(14) {
			in += parts[r.Intn(len(parts))]
			if r.Intn(3) > 0 {
				in += " "
			}
		}
		l, e := ops.Parse([]byte(in))
		if e != api.OK {
			if l != nil {
				t.Fatalf("R1: %q: %v, %d", in, l, e)
			}
			continue
		}
		parsed++
		for _, o := range l {
			if e := ops.Check(o); e != api.OK {
				t.Fatalf("P20.1: %q: %v, %d", in, o, e)
			}
		}
		s, e := ops.Print(l)
		again, f := ops.Parse([]byte(s))
		if !same(again, l) || e != api.OK || f != api.OK {
			t.Fatalf("P20.3: %q, printed as %q: %v, %d, %d", in, s, again, e, f)
		}
	}
	if parsed < 1000 {
		t.Errorf("only %d contents were parsed", parsed)
	}
}

func TestArgumentsAreKept(t *testing.T) {
	in := "1 (a) /B x BI /W 1 ID data EI ???"
	b := []byte(in)
	l, e := ops.Parse(b[:len(b)-3])
	if string(b) != in || e != api.OK {
		t.Errorf("R2: %q, %d", b, e)
	}
	clear(b)
	if !same(l, []api.Op{op("x", num(1, 0), text("a"), name("B")), image(dict("W", num(1, 0)), "data")}) {
		t.Errorf("R2: operators change with the bytes: %v", l)
	}
	args := []api.Obj{num(1, 0), num(2, 0), num(3, 0)}
	given := []api.Op{op("x", args[:2]...), op("q"), op("Q")}
	ops.Print(given[:2])
	ops.Check(given[0])
	if !same(given, []api.Op{op("x", args[:2]...), op("q"), op("Q")}) || args[2].Num.M != 3 {
		t.Errorf("R2: %v", given)
	}
	// A list that contains itself is nested too deeply.
	o := list(null())
	o.Parts[0] = o
	if e := ops.Check(op("x", o)); e != api.ErrArg || obj.Check(o) != api.ErrDeep {
		t.Errorf("R1: %d", e)
	}
}
