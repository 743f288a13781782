package obj_test

import (
	"math"
	"math/rand"
	"reflect"
	"slices"
	"strconv"
	"strings"
	"testing"

	"erasure/api"
	"erasure/dec"
	"erasure/obj"
)

func null() api.Obj                 { return api.Obj{} }
func boolean(b bool) api.Obj        { return api.Obj{Kind: api.ObjBool, Bool: b} }
func num(m, s int) api.Obj          { return api.Obj{Kind: api.ObjNum, Num: api.Dec{M: m, S: s}} }
func name(t string) api.Obj         { return api.Obj{Kind: api.ObjName, Text: t} }
func text(t string) api.Obj         { return api.Obj{Kind: api.ObjText, Text: t} }
func list(parts ...api.Obj) api.Obj { return api.Obj{Kind: api.ObjList, Parts: parts} }
func ref(id int) api.Obj            { return api.Obj{Kind: api.ObjRef, Ref: id} }
func repeat(n int) string           { return strings.Repeat("x", n) }

// dict returns a dictionary with the keys, separated by blanks, of the parts.
func dict(keys string, parts ...api.Obj) api.Obj {
	return api.Obj{Kind: api.ObjDict, Keys: strings.Fields(keys), Parts: parts}
}

// lists returns n lists in each other.
func lists(n int) api.Obj {
	o := list()
	for range n - 1 {
		o = list(o)
	}
	return o
}

// dicts returns n dictionaries and lists in each other.
func dicts(n int) api.Obj {
	o := dict("")
	for i := range n - 1 {
		if i%2 == 0 {
			o = list(num(1, 0), o)
		} else {
			o = dict("A B", o, null())
		}
	}
	return o
}

// many returns a list of n numbers, and a dictionary of n keys.
func many(n int) (api.Obj, api.Obj) {
	l, d := list(), api.Obj{Kind: api.ObjDict}
	for i := range n {
		l.Parts = append(l.Parts, num(i, 0))
		d.Keys = append(d.Keys, strconv.Itoa(10000+i))
		d.Parts = append(d.Parts, num(i, 0))
	}
	return l, d
}

// same compares without telling a nil slice from an empty one.
func same(a, b api.Obj) bool {
	return reflect.DeepEqual(settle(a), settle(b))
}

func settle(o api.Obj) api.Obj {
	if len(o.Keys) == 0 {
		o.Keys = nil
	}
	var parts []api.Obj
	for _, p := range o.Parts {
		parts = append(parts, settle(p))
	}
	o.Parts = parts
	return o
}

func isZero(o api.Obj) bool {
	return reflect.DeepEqual(o, api.Obj{})
}

// right are valid objects, and what is printed for them.
func right() []struct {
	o    api.Obj
	want string
} {
	return []struct {
		o    api.Obj
		want string
	}{
		{null(), "null"}, {boolean(true), "true"}, {boolean(false), "false"},
		{num(0, 0), "0"}, {num(-15, 1), "-1.5"}, {num(api.MaxDec, 9), "999999999.999999999"},
		{name(""), "/"}, {name("A B#"), "/A#20B#23"}, {name("\x01\xff"), "/#01#ff"}, {name(repeat(api.MaxText)), "/" + repeat(api.MaxText)},
		{text(""), "<>"}, {text("\x00a)"), "<006129>"}, {text(repeat(api.MaxText)), "<" + strings.Repeat("78", api.MaxText) + ">"},
		{ref(1), "1 0 R"}, {ref(api.MaxId), "8388607 0 R"},
		{list(), "[ ]"}, {list(null()), "[ null ]"}, {list(num(1, 0), num(0, 0), ref(2), list(name("R"))), "[ 1 0 2 0 R [ /R ] ]"},
		{list(text("a"), boolean(false), dict("")), "[ <61> false << >> ]"},
		{dict(""), "<< >>"}, {dict("A", null()), "<< /A null >>"}, {dict("A AA B", num(1, 0), ref(3), list()), "<< /A 1 /AA 3 0 R /B [ ] >>"},
		{api.Obj{Kind: api.ObjDict, Keys: []string{"", "\x80 "}, Parts: []api.Obj{name("x"), dict("y", text("z"))}}, "<< / /x /#80#20 << /y <7a> >> >>"},
		{lists(32), strings.Repeat("[ ", 31) + "[ " + strings.Repeat("] ", 31) + "]"},
		{api.Obj{Kind: api.ObjList, Parts: []api.Obj{}, Keys: []string{}}, "[ ]"},
		{api.Obj{Kind: api.ObjNull, Parts: []api.Obj{}, Keys: []string{}}, "null"},
	}
}

func TestRight(t *testing.T) {
	l, d := many(api.MaxParts)
	for _, o := range []api.Obj{l, d, dicts(32), list(l, d), dict("A", dicts(31))} {
		if e := obj.Check(o); e != api.OK {
			t.Errorf("P15.1: kind %d with %d parts: %d", o.Kind, len(o.Parts), e)
		}
	}
	for _, c := range right() {
		if e := obj.Check(c.o); e != api.OK {
			t.Errorf("P15.1: %.80q: %d", c.want, e)
		}
		s, e := obj.Print(c.o)
		if s != c.want || e != api.OK {
			t.Errorf("P15.3: %.80q, %d, want %.80q", s, e, c.want)
		}
		o, at, e := obj.Parse([]byte("% "+s+"\n"+s+" 7"), len(s)+2)
		if !same(o, c.o) || at != 2*len(s)+3 || e != api.OK {
			t.Errorf("P15.2: %.80q: %d, %d, %d", s, o.Kind, at, e)
		}
	}
}

func TestWrong(t *testing.T) {
	long, wide := many(api.MaxParts + 1)
	type named struct {
		name string
		o    api.Obj
		want api.Errno
	}
	l := []named{
		{"kind -1", api.Obj{Kind: -1}, api.ErrArg}, {"kind 8", api.Obj{Kind: 8}, api.ErrArg}, {"the greatest kind", api.Obj{Kind: math.MaxInt}, api.ErrArg}, {"the least kind", api.Obj{Kind: math.MinInt}, api.ErrArg},
		{"number 1.0", num(10, 1), api.ErrArg}, {"a number that is too great", num(api.MaxDec+1, 0), api.ErrArg}, {"a scale that is too great", num(1, 10), api.ErrArg}, {"a negative scale", num(1, -1), api.ErrArg},
		{"a name with 00", name("a\x00"), api.ErrArg}, {"a name that is too long", name(repeat(api.MaxText + 1)), api.ErrArg}, {"a string that is too long", text(repeat(api.MaxText + 1)), api.ErrArg},
		{"reference 0", ref(0), api.ErrArg}, {"reference -1", ref(-1), api.ErrArg}, {"a reference that is too great", ref(api.MaxId + 1), api.ErrArg}, {"the least reference", ref(math.MinInt), api.ErrArg},
		{"a list of 4097", long, api.ErrArg}, {"a dictionary of 4097", wide, api.ErrArg},
		{"fewer keys", dict("A", null(), null()), api.ErrArg}, {"more keys", dict("A B", null()), api.ErrArg}, {"keys alone", dict("A"), api.ErrArg}, {"parts alone", dict("", null()), api.ErrArg},
		{"keys that fall", dict("B A", null(), null()), api.ErrArg}, {"a key twice", dict("A A", null(), null()), api.ErrArg}, {"keys that fall at the end", dict("A C B", null(), null(), null()), api.ErrArg},
		{"a key with 00", dict("A\x00", null()), api.ErrArg}, {"a key that is too long", dict(repeat(api.MaxText+1), null()), api.ErrArg}, {"keys by other letters", dict("a B", null(), null()), api.ErrArg},
		{"33 lists", lists(33), api.ErrDeep}, {"33 lists and dictionaries", dicts(33), api.ErrDeep}, {"3000 lists", lists(3000), api.ErrDeep}, {"33 dictionaries at the end", list(num(1, 0), dicts(32)), api.ErrDeep},
		{"33 lists with something wrong", list(ref(0), lists(32)), api.ErrDeep}, {"33 lists ahead of something wrong", list(lists(32), ref(0)), api.ErrDeep},
		{"33 lists in a dictionary without keys", dict("", lists(32)), api.ErrDeep}, {"32 lists in one that has keys", api.Obj{Kind: api.ObjList, Keys: []string{"A"}, Parts: []api.Obj{lists(32)}}, api.ErrDeep},
		{"32 lists, in one of them something wrong", list(lists(31), list(ref(0))), api.ErrArg}, {"32 lists, in the innermost something wrong", deepWrong(), api.ErrArg},
		{"lists in a number", list(api.Obj{Kind: api.ObjNum, Parts: []api.Obj{lists(40)}}), api.ErrArg}, {"lists in a kind that is none", api.Obj{Kind: 9, Parts: []api.Obj{lists(40)}}, api.ErrArg},
	}
	for kind := range 8 {
		for _, c := range []struct {
			name string
			used []int
			o    api.Obj
		}{
			{"a bool", []int{api.ObjBool}, api.Obj{Bool: true}},
			{"a number", []int{api.ObjNum}, api.Obj{Num: api.Dec{M: 1}}},
			{"a scale", []int{api.ObjNum}, api.Obj{Num: api.Dec{S: 1}}},
			{"a text", []int{api.ObjName, api.ObjText}, api.Obj{Text: "x"}},
			{"parts", []int{api.ObjList}, api.Obj{Parts: []api.Obj{{}}}},
			{"keys", nil, api.Obj{Keys: []string{"A"}}},
			{"a reference", []int{api.ObjRef}, api.Obj{Ref: 1}},
		} {
			c.o.Kind = kind
			if kind == api.ObjRef {
				c.o.Ref = 1
			}
			if !slices.Contains(c.used, kind) {
				l = append(l, named{c.name + " in kind " + strconv.Itoa(kind), c.o, api.ErrArg})
			}
		}
	}
	for _, c := range l {
		checkWrong(t, c.name, c.o, c.want)
		if strings.HasPrefix(c.name, "32 lists, ") {
			c.want = api.ErrDeep
		}
		checkWrong(t, c.name+" in a list", list(num(1, 0), c.o), c.want)
		checkWrong(t, c.name+" in a dictionary", dict("A B", num(1, 0), c.o), c.want)
	}
	around := make([]api.Obj, 2)
	around[0], around[1] = num(1, 0), list(around...)
	checkWrong(t, "a list that contains itself", list(around...), api.ErrDeep)
}

// deepWrong returns 32 lists in each other, of which the innermost has a wrong part.
func deepWrong() api.Obj {
	o := ref(0)
	for range 32 {
		o = list(o)
	}
	return o
}

func checkWrong(t *testing.T, name string, o api.Obj, want api.Errno) {
	t.Helper()
	if e := obj.Check(o); e != want {
		t.Errorf("P15.1: %s: %d, want %d", name, e, want)
	}
	if s, e := obj.Print(o); s != "" || e != want {
		t.Errorf("P15.3: %s: %.80q, %d, want %d", name, s, e, want)
	}
	if x, e := obj.Put(o, "A", null()); !isZero(x) || e != api.ErrArg {
		t.Errorf("P15.4: Put into %s: %d, %d", name, x.Kind, e)
	}
	if x, e := obj.Put(dict(""), "A", o); !isZero(x) || e != want {
		t.Errorf("P15.4: Put of %s: %d, %d, want %d", name, x.Kind, e, want)
	}
}

func TestParse(t *testing.T) {
	for _, c := range []struct {
		in   string
		want api.Obj
		left int
	}{
		{"<</B[1 2 0 R]/A(x)>>", dict("A B", text("x"), list(num(1, 0), ref(2))), 0},
		{" %c\nnull", null(), 0}, {"true[", boolean(true), 1}, {"false/", boolean(false), 1}, {"/A#42(", name("AB"), 1}, {"(a(b))c", text("a(b)"), 1}, {"<4>1", text("@"), 1},
		{"1", num(1, 0), 0}, {"1 ", num(1, 0), 1}, {"-1.5 0 R", num(-15, 1), 4},
		{"1 0 R", ref(1), 0}, {"1 0 R 2", ref(1), 2}, {"8388607 0 R", ref(8388607), 0}, {"+1. 0.0 R", ref(1), 0}, {"1%\n0%\nR%", ref(1), 1}, {"1 -0 R[", ref(1), 1}, {"1 0 R/A", ref(1), 2},
		{"0 0 R", num(0, 0), 4}, {"-1 0 R", num(-1, 0), 4}, {"8388608 0 R", num(8388608, 0), 4}, {"1.5 0 R", num(15, 1), 4}, {"0 1 R", num(0, 0), 4}, {"8388608 1 R", num(8388608, 0), 4},
		{"1 -1 R", num(1, 0), 5}, {"1 0.5 R", num(1, 0), 6}, {"1 /0 R", num(1, 0), 5}, {"1 (0) R", num(1, 0), 6}, {"1 x R", num(1, 0), 4}, {"1 R", num(1, 0), 2}, {"1 0", num(1, 0), 2},
		{"1 0 r", num(1, 0), 4}, {"1 0 RR", num(1, 0), 5}, {"1 0 /R", num(1, 0), 5}, {"1 0 (R)", num(1, 0), 6}, {"1 0 obj", num(1, 0), 6}, {"1 0 ]", num(1, 0), 4}, {"1 5", num(1, 0), 2},
		{"1 )", num(1, 0), 2}, {"1 0 )", num(1, 0), 4}, {"1 1000000000000000000 R", num(1, 0), 22}, {"1 5 )", num(1, 0), 4}, {"1 0 (", num(1, 0), 4}, {"1 5 0 R", num(1, 0), 6},
		{"[]", list(), 0}, {"[ ]]", list(), 1}, {"[1 0 R]", list(ref(1)), 0}, {"[1 0 R 2]", list(ref(1), num(2, 0)), 0}, {"[1 2 0 R]", list(num(1, 0), ref(2)), 0},
		{"[1 2 3 0 R 4 5]", list(num(1, 0), num(2, 0), ref(3), num(4, 0), num(5, 0)), 0}, {"[1 0]", list(num(1, 0), num(0, 0)), 0}, {"[null(a)true]x", list(null(), text("a"), boolean(true)), 1},
		{"[[][[]]]", list(list(), list(list())), 0}, {"[<<>><</A/B>>]", list(dict(""), dict("A", name("B"))), 0},
		{"<<>>", dict(""), 0}, {"<</A 1/B 2 0 R/C null>>>>", dict("A B C", num(1, 0), ref(2), null()), 2}, {"<</A/A/a/B/B(x)>>", dict("A B a", name("A"), text("x"), name("B")), 0},
		{"<</ 1>>", api.Obj{Kind: api.ObjDict, Keys: []string{""}, Parts: []api.Obj{num(1, 0)}}, 0}, {"<</A<</A<</A 1>>>>>>", dict("A", dict("A", dict("A", num(1, 0)))), 0},
		{"<</Z 26/Y 25/AA 27/A 1/#41B 28>>", dict("A AA AB Y Z", num(1, 0), num(27, 0), num(28, 0), num(25, 0), num(26, 0)), 0},
		{"<</\x80 2/~ 1>>", dict("~ \x80", num(1, 0), num(2, 0)), 0},
		{strings.Repeat("[", 32) + strings.Repeat("]", 32), lists(32), 0},
		{strings.Repeat("<</A[", 16) + strings.Repeat("]>>", 16) + "[", nested(16), 1},
	} {
		o, at, e := obj.Parse([]byte(c.in), 0)
		if !same(o, c.want) || at != len(c.in)-c.left || e != api.OK {
			t.Errorf("P15.2: %q: %v, %d, %d, want %v with %d left", c.in, o, at, e, c.want, c.left)
		}
	}
}

// nested returns n dictionaries, each with a list at A.
func nested(n int) api.Obj {
	o := list()
	for i := range n {
		if i > 0 {
			o = list(o)
		}
		o = dict("A", o)
	}
	return o
}

func TestParseTellsErrors(t *testing.T) {
	deep := strings.Repeat("[", 32)
	full := strings.Repeat("1 ", api.MaxParts)
	keys := ""
	for i := range api.MaxParts {
		keys += "/" + strconv.Itoa(i) + " null"
	}
	for _, c := range []struct {
		in   string
		want api.Errno
	}{
		{"", api.ErrNone}, {" % x", api.ErrNone}, {"[", api.ErrNone}, {"[1 ", api.ErrNone}, {"[[]", api.ErrNone}, {"<<", api.ErrNone}, {"<</A", api.ErrNone}, {"<</A 1", api.ErrNone}, {"<</A[]", api.ErrNone},
		{"]", api.ErrForm}, {">>", api.ErrForm}, {"R", api.ErrForm}, {"obj", api.ErrForm}, {"nul", api.ErrForm}, {"True", api.ErrForm}, {"nullx", api.ErrForm}, {"NULL", api.ErrForm},
		{")", api.ErrForm}, {"{", api.ErrForm}, {"(", api.ErrForm}, {"<4", api.ErrForm}, {"/#", api.ErrForm}, {"1000000000000000000", api.ErrOver}, {repeat(128), api.ErrLong}, {"/" + repeat(api.MaxText+1), api.ErrLong},
		{"1 1 R", api.ErrForm}, {"1 5 R", api.ErrForm}, {"8388607 65535 R", api.ErrForm}, {"1 999999999999999999 R", api.ErrForm}, {"[1 1 R]", api.ErrForm},
		{"[>>", api.ErrForm}, {"[1 R]", api.ErrForm}, {"[0 0 R]", api.ErrForm}, {"[8388608 0 R]", api.ErrForm}, {"[)", api.ErrForm}, {"[1000000000000000000", api.ErrOver}, {"[1 1000000000000000000 R", api.ErrOver},
		{"[1 0 )", api.ErrForm}, {"[x", api.ErrForm}, {"[" + repeat(128), api.ErrLong},
		{"<<]", api.ErrForm}, {"<<1", api.ErrForm}, {"<<(A)", api.ErrForm}, {"<<null", api.ErrForm}, {"<<[", api.ErrForm}, {"<<<<", api.ErrForm}, {"<</A>>", api.ErrForm}, {"<</A]", api.ErrForm}, {"<</A)", api.ErrForm},
		{"<</A 1/B>>", api.ErrForm}, {"<</A 1/A", api.ErrForm}, {"<</A 1/A 2>>", api.ErrForm}, {"<</A null/#41 null>>", api.ErrForm}, {"<</A 1 2>>", api.ErrForm}, {"<</A 1000000000000000000", api.ErrOver},
		{"<</A 1/A 1000000000000000000", api.ErrForm}, {"<</A 1/A(", api.ErrForm}, {"<<A 1>>", api.ErrForm}, {"<</A 1 A", api.ErrForm}, {"<</#", api.ErrForm}, {"<</A x", api.ErrForm},
		{deep + "[", api.ErrDeep}, {deep + "<<", api.ErrDeep}, {deep + "1[", api.ErrDeep}, {deep + "]]", api.ErrNone}, {strings.Repeat("<</A", 33), api.ErrDeep}, {strings.Repeat("<</A", 32), api.ErrNone},
		{strings.Repeat("[", 100000), api.ErrDeep}, {deep[1:] + "[][[", api.ErrDeep}, {deep + "][", api.ErrNone},
		{"[" + full + "1]", api.ErrLong}, {"[" + full + "x", api.ErrLong}, {"[" + full + ">>", api.ErrLong}, {"[" + full, api.ErrNone}, {"[" + full + ")", api.ErrForm}, {"[" + full + "1000000000000000000", api.ErrOver},
		{"[" + full + "[", api.ErrLong}, {deep[1:] + "[" + full + "[", api.ErrLong}, {"<<" + keys, api.ErrNone}, {"<<" + keys + "/x 1>>", api.ErrLong}, {"<<" + keys + "/1 1>>", api.ErrLong}, {"<<" + keys + " 1", api.ErrLong},
		{"<<" + keys + "]", api.ErrLong}, {"<<" + keys + ")", api.ErrForm}, {"[[" + full + "]" + "[" + full + "2]]", api.ErrLong},
	} {
		o, at, e := obj.Parse([]byte(c.in), 0)
		if !isZero(o) || at != 0 || e != c.want {
			t.Errorf("P15.2: %.50q: kind %d, %d, %d, want %d", c.in, o.Kind, at, e, c.want)
		}
	}
	for _, c := range []struct {
		in   string
		size int
	}{{"[" + full + "]", api.MaxParts}, {"<<" + keys + ">>", api.MaxParts}} {
		o, at, e := obj.Parse([]byte(c.in), 0)
		if len(o.Parts) != c.size || at != len(c.in) || e != api.OK || obj.Check(o) != api.OK {
			t.Errorf("P15.2: %.50q: %d parts, %d, %d", c.in, len(o.Parts), at, e)
		}
	}
}

func TestParseAt(t *testing.T) {
	in := []byte("[1 2]/A")
	for _, c := range []struct {
		at, end int
		e       api.Errno
	}{{0, 5, api.OK}, {1, 2, api.OK}, {2, 4, api.OK}, {4, 0, api.ErrForm}, {5, 7, api.OK}, {7, 0, api.ErrNone}, {8, 0, api.ErrArg}, {-1, 0, api.ErrArg}, {math.MaxInt, 0, api.ErrArg}, {math.MinInt, 0, api.ErrArg}} {
		if _, end, e := obj.Parse(in, c.at); end != c.end || e != c.e {
			t.Errorf("P15.2: at %d: %d, %d, want %d, %d", c.at, end, e, c.end, c.e)
		}
	}
	if _, _, e := obj.Parse(nil, 0); e != api.ErrNone {
		t.Errorf("P15.2: nothing: %d", e)
	}
}

func TestGet(t *testing.T) {
	twice := dict("A B A C", num(1, 0), num(2, 0), num(3, 0))
	for _, c := range []struct {
		o    api.Obj
		key  string
		want api.Obj
		ok   bool
	}{
		{dict("A B", num(1, 0), name("x")), "A", num(1, 0), true}, {dict("A B", num(1, 0), name("x")), "B", name("x"), true}, {dict("A B", num(1, 0), name("x")), "C", null(), false},
		{dict("A", null()), "A", null(), true}, {dict(""), "A", null(), false}, {dict("A", num(1, 0)), "", null(), false}, {dict("A", num(1, 0)), "a", null(), false}, {dict("AB", num(1, 0)), "A", null(), false},
		// Nothing else has to be right.
		{twice, "A", num(1, 0), true}, {twice, "B", num(2, 0), true}, {twice, "C", null(), false}, {dict("A B A", num(1, 0)), "B", null(), false}, {dict("A"), "A", null(), false},
		{api.Obj{Kind: api.ObjList, Keys: []string{"A"}, Parts: []api.Obj{num(1, 0)}}, "A", null(), false}, {api.Obj{Keys: []string{"A"}, Parts: []api.Obj{num(1, 0)}}, "A", null(), false},
		{api.Obj{Kind: api.ObjDict, Keys: []string{"\x00"}, Parts: []api.Obj{{Kind: 77}}}, "\x00", api.Obj{Kind: 77}, true}, {list(num(1, 0)), "A", null(), false}, {null(), "A", null(), false}, {name("A"), "A", null(), false},
	} {
		if o, ok := obj.Get(c.o, c.key); !same(o, c.want) || ok != c.ok {
			t.Errorf("P15.4: Get of %q from %v: %v, %v", c.key, c.o, o, ok)
		}
	}
}

func TestPut(t *testing.T) {
	ab := dict("A C", num(1, 0), num(3, 0))
	_, full := many(api.MaxParts)
	for _, c := range []struct {
		name string
		o    api.Obj
		key  string
		v    api.Obj
		want api.Obj
		e    api.Errno
	}{
		{"the first", dict(""), "A", num(1, 0), dict("A", num(1, 0)), api.OK}, {"ahead", ab, "", name("x"), api.Obj{Kind: api.ObjDict, Keys: []string{"", "A", "C"}, Parts: []api.Obj{name("x"), num(1, 0), num(3, 0)}}, api.OK},
		{"between", ab, "B", list(), dict("A B C", num(1, 0), list(), num(3, 0)), api.OK}, {"behind", ab, "a", ref(1), dict("A C a", num(1, 0), num(3, 0), ref(1)), api.OK},
		{"over", ab, "C", dict("C", null()), dict("A C", num(1, 0), dict("C", null())), api.OK}, {"over with the same", ab, "A", num(1, 0), ab, api.OK},
		{"null over", ab, "A", null(), dict("C", num(3, 0)), api.OK}, {"null over the last", ab, "C", null(), dict("A", num(1, 0)), api.OK}, {"null for none", ab, "B", null(), ab, api.OK}, {"null into nothing", dict(""), "A", null(), dict(""), api.OK},
		{"null over null", dict("A", null()), "A", null(), dict(""), api.OK}, {"null is kept elsewhere", dict("A", null()), "B", num(1, 0), dict("A B", null(), num(1, 0)), api.OK}, {"a long key", dict(""), repeat(api.MaxText), boolean(true), dict(repeat(api.MaxText), boolean(true)), api.OK},
		{"into a list", list(), "A", num(1, 0), null(), api.ErrArg}, {"into null", null(), "A", num(1, 0), null(), api.ErrArg}, {"into a reference", ref(1), "A", null(), null(), api.ErrArg},
		{"a key with 00", ab, "\x00", num(1, 0), null(), api.ErrArg}, {"a key that is too long", ab, repeat(api.MaxText + 1), num(1, 0), null(), api.ErrArg}, {"a wrong key for null", ab, "\x00", null(), null(), api.ErrArg},
		{"a wrong key ahead of a deep part", ab, "\x00", lists(33), null(), api.ErrArg}, {"a wrong dictionary ahead of a deep part", dict("A"), "A", lists(33), null(), api.ErrArg}, {"a deep dictionary", dicts(33), "A", null(), null(), api.ErrArg},
		{"a wrong part", ab, "B", ref(0), null(), api.ErrArg}, {"a deep part", ab, "B", lists(33), null(), api.ErrDeep}, {"too deep together", ab, "B", lists(32), null(), api.ErrDeep}, {"too deep together, over", ab, "A", dicts(32), null(), api.ErrDeep},
		{"as deep as may be", dict(""), "B", lists(31), dict("B", lists(31)), api.OK}, {"a deep part goes", dict("A", lists(31)), "A", null(), dict(""), api.OK}, {"a dictionary is as deep as may be", dict("A", lists(31)), "B", num(1, 0), dict("A B", lists(31), num(1, 0)), api.OK},
		{"one too many", full, "A", num(1, 0), null(), api.ErrLong}, {"one too many that is too deep", full, "A", lists(32), null(), api.ErrLong}, {"one over another when there are many", full, "10000", lists(32), null(), api.ErrDeep}, {"null when there are many", full, "A", null(), full, api.OK},
		{"one too many that is wrong", full, "A", ref(0), null(), api.ErrArg}, {"one too many that is deep", full, "A", lists(33), null(), api.ErrDeep},
	} {
		o, e := obj.Put(c.o, c.key, c.v)
		if !same(o, c.want) || e != c.e {
			t.Errorf("P15.4: %s: %d keys, %d, want %d keys, %d", c.name, len(o.Keys), e, len(c.want.Keys), c.e)
		}
	}
	_, less := many(api.MaxParts - 1)
	if o, e := obj.Put(less, "A", num(1, 0)); len(o.Keys) != api.MaxParts || e != api.OK {
		t.Errorf("P15.4: the last one that fits: %d keys, %d", len(o.Keys), e)
	}
	if o, e := obj.Put(full, "10000", name("x")); !same(o.Parts[0], name("x")) || len(o.Keys) != api.MaxParts || e != api.OK {
		t.Errorf("P15.4: one over another when there are many: %d keys, %d", len(o.Keys), e)
	}
}

// some returns a valid object.
func some(r *rand.Rand, depth int) api.Obj {
	kinds := 8
	b := make([]byte, r.Intn(4))
	for i := range b {
		b[i] = byte(1 + r.Intn(255))
	}
	if depth == 0 {
		kinds = 5
	}
	switch k := r.Intn(kinds); k {
	case api.ObjBool:
		return boolean(r.Intn(2) == 0)
	case api.ObjNum:
		d, _ := dec.Make(r.Intn(30)-9, r.Intn(2))
		return api.Obj{Kind: k, Num: d}
	case api.ObjName, api.ObjText:
		return api.Obj{Kind: k, Text: string(b)}
	case api.ObjList:
		o := list()
		for range r.Intn(5) {
			o.Parts = append(o.Parts, some(r, depth-1))
		}
		return o
	case api.ObjDict:
		o := dict("")
		for _, key := range []string{"", "A", "B#", "R", "z"} {
			if r.Intn(2) == 0 {
				o.Keys, o.Parts = append(o.Keys, key), append(o.Parts, some(r, depth-1))
			}
		}
		return o
	case api.ObjRef:
		return ref(1 + r.Intn(12))
	}
	return null()
}

func TestPrintedObjectsAreParsed(t *testing.T) {
	r := rand.New(rand.NewSource(15))
	for range 5000 {
		want := some(r, 4)
		s, e := obj.Print(want)
		if e != api.OK || obj.Check(want) != api.OK {
			t.Fatalf("P15.3: %v: %d", want, e)
		}
		// A number is a reference if that is what follows, as P15.2 says.
		for _, x := range []string{"", " ", "\n1", "\x00)", " 0 1", "\t0 obj", " %", " <<", "\rR", " 1 0 R"} {
			got, at, e := obj.Parse([]byte("7 "+s+x), 1)
			if !same(got, want) || at != 2+len(s) || e != api.OK {
				t.Fatalf("P15.5: %v, printed as %q and followed by %q: %v, %d, %d", want, s, x, got, at, e)
			}
		}
	}
}

// What is parsed of any tokens is valid, and is parsed as the same after printing.
func TestParsedObjectsAreValid(t *testing.T) {
	r := rand.New(rand.NewSource(151))
	tokens := []string{"[", "]", "<<", ">>", "/A", "/B", "/#41", "1", "0", "R", "2.5", "-1", "(x(y))", "<41>", "null", "true", "false", "%c\n", "1 0 R", "<</C[", "]>>", "x"}
	parsed := 0
	for range 30000 {
		in := ""
		for range 1 + r.Intn(9) {
			in += tokens[r.Intn(len(tokens))] + " "
		}
		o, at, e := obj.Parse([]byte(in), 0)
		if e != api.OK {
			if !isZero(o) || at != 0 {
				t.Fatalf("R1: %q: %v, %d, %d", in, o, at, e)
			}
			continue
		}
		parsed++
		s, e := obj.Print(o)
		again, _, f := obj.Parse([]byte(s), 0)
		if obj.Check(o) != api.OK || e != api.OK || f != api.OK || !same(o, again) {
			t.Fatalf("P15.5: %q: %v, printed as %q, %d: %v, %d", in, o, s, e, again, f)
		}
	}
	if parsed < 1000 {
		t.Errorf("only %d are parsed", parsed)
	}
}

func TestGetReturnsWhatWasPut(t *testing.T) {
	r := rand.New(rand.NewSource(152))
	keys := []string{"", "A", "B", "C", "a", "\xff"}
	for range 500 {
		o := dict("")
		held := map[string]api.Obj{}
		for range 12 {
			key, v := keys[r.Intn(len(keys))], some(r, 2)
			next, e := obj.Put(o, key, v)
			if e != api.OK || obj.Check(next) != api.OK {
				t.Fatalf("P15.5: %v at %q into %v: %d", v, key, o, e)
			}
			held[key] = v
			if v.Kind == api.ObjNull {
				delete(held, key)
			}
			o = next
			for _, k := range keys {
				got, ok := obj.Get(o, k)
				if want, there := held[k]; !same(got, want) || ok != there {
					t.Fatalf("P15.5: %q in %v: %v, %v, want %v, %v", k, o, got, ok, want, there)
				}
			}
		}
	}
}

func TestArgumentsAreKept(t *testing.T) {
	in := "<</B[1 2 0 R]/A(x)>>)))"
	b := []byte(in)
	o, _, _ := obj.Parse(b[:len(b)-3], 0)
	if string(b) != in {
		t.Errorf("R2: %q", b)
	}
	clear(b)
	if !same(o, dict("A B", text("x"), list(num(1, 0), ref(2)))) {
		t.Errorf("R2: an object changes with the bytes: %v", o)
	}
	keys, parts := []string{"A", "B", "C", "spare"}, []api.Obj{num(1, 0), num(2, 0), num(3, 0), name("spare")}
	for _, key := range []string{"", "A", "B", "Bx", "C", "D"} {
		for _, v := range []api.Obj{null(), num(9, 0)} {
			obj.Put(api.Obj{Kind: api.ObjDict, Keys: keys[:3], Parts: parts[:3]}, key, v)
		}
	}
	if !slices.Equal(keys, []string{"A", "B", "C", "spare"}) || !same(list(parts...), list(num(1, 0), num(2, 0), num(3, 0), name("spare"))) {
		t.Errorf("R2: %v, %v", keys, parts)
	}
}
