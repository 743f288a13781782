package xref_test

import (
	"fmt"
	"math"
	"math/rand"
	"reflect"
	"slices"
	"sort"
	"strconv"
	"strings"
	"testing"

	"erasure/api"
	"erasure/obj"
	"erasure/xref"
)

func used(id, at int) api.Entry { return api.Entry{Id: id, At: at, Used: true} }
func free(id int) api.Entry     { return api.Entry{Id: id} }
func empty() api.Obj            { return api.Obj{Kind: api.ObjDict} }

func size(n int) api.Obj {
	return api.Obj{Kind: api.ObjDict, Keys: []string{"Size"}, Parts: []api.Obj{{Kind: api.ObjNum, Num: api.Dec{M: n}}}}
}

func sameObj(a, b api.Obj) bool {
	s, e := obj.Print(a)
	u, f := obj.Print(b)
	return s == u && e == f
}

func TestParse(t *testing.T) {
	for _, c := range []struct {
		in   string
		want []api.Entry
		left int
	}{
		{"xref\n0 2\n0000000000 65535 f \n0000000015 00000 n \ntrailer\n<<>>\n", []api.Entry{free(0), used(1, 15)}, 1},
		{"xref trailer<<>>", nil, 0},
		{"\n%x\n xref%\ntrailer%\n<<>>x", nil, 1},
		{"xref 0 0 trailer<<>>", nil, 0},
		{"xref 5 0 5 0 5 1 0 0 f 5 0 trailer<<>> x", []api.Entry{free(5)}, 2},
		// The Id of a section without entries is not checked.
		{"xref 8388608 0 999999999999999999 0 trailer<<>>", nil, 0},
		{"xref 1 1 9 0 f trailer<<>>", []api.Entry{free(1)}, 0},
		{"xref 1 2 9999999999 0 n 9999999999 65535 f trailer<<>>", []api.Entry{used(1, 9999999999), free(2)}, 0},
		{"xref 1 2 0 0 n 0 0 f trailer<<>>", []api.Entry{used(1, 0), free(2)}, 0},
		{"xref 8388607 1 1 0 n trailer<<>>", []api.Entry{used(8388607, 1)}, 0},
		{"xref 8388606 2 1 0 n 2 0 n trailer<<>>", []api.Entry{used(8388606, 1), used(8388607, 2)}, 0},
		// Sections that touch, and sections in another order.
		{"xref 0 1 0 1 f 1 1 7 0 n 2 1 8 0 n trailer<<>>", []api.Entry{free(0), used(1, 7), used(2, 8)}, 0},
		{"xref 7 2 70 0 n 80 0 n 3 1 30 0 n 9 1 90 0 n 0 2 0 5 f 10 0 n trailer<<>>", []api.Entry{free(0), used(1, 10), used(3, 30), used(7, 70), used(8, 80), used(9, 90)}, 0},
		// What is told in another way is the same number.
		{"xref +1. 1.0 -0 0.0 n trailer<<>>", []api.Entry{used(1, 0)}, 0},
	} {
		l, trailer, at, e := xref.Parse([]byte(c.in), 0)
		if !slices.Equal(l, c.want) || !sameObj(trailer, empty()) || at != len(c.in)-c.left || e != api.OK {
			t.Errorf("P16.1: %q: %v, %v, %d, %d, want %v with %d left", c.in, l, trailer, at, e, c.want, c.left)
		}
	}
	in := "x xref 0 1 0 0 f trailer <</Size 1>> x"
	l, trailer, at, e := xref.Parse([]byte(in), 1)
	if !slices.Equal(l, []api.Entry{free(0)}) || !sameObj(trailer, size(1)) || at != len(in)-2 || e != api.OK {
		t.Errorf("P16.1: %v, %v, %d, %d", l, trailer, at, e)
	}
}

func TestParseTellsErrors(t *testing.T) {
	over := "1000000000000000000"
	long := strings.Repeat("x", 128)
	for _, c := range []struct {
		in   string
		want api.Errno
	}{
		{"", api.ErrForm}, {"xref[", api.ErrForm}, {"Xref", api.ErrForm}, {"xre", api.ErrForm}, {"/xref trailer<<>>", api.ErrForm}, {"(xref) trailer<<>>", api.ErrForm}, {"trailer<<>>", api.ErrForm}, {"1", api.ErrForm}, {"1 0 obj", api.ErrForm},
		{")", api.ErrForm}, {"(", api.ErrForm}, {over, api.ErrOver}, {long, api.ErrLong},
		// In place of a first Id or the word trailer.
		{"xref", api.ErrForm}, {"xref x", api.ErrForm}, {"xref -1 0", api.ErrForm}, {"xref 0.5 0", api.ErrForm}, {"xref /trailer<<>>", api.ErrForm}, {"xref (trailer)<<>>", api.ErrForm}, {"xref <<>>", api.ErrForm}, {"xref xref", api.ErrForm},
		{"xref )", api.ErrForm}, {"xref " + over, api.ErrOver}, {"xref " + long, api.ErrLong}, {"xref [", api.ErrForm}, {"xref <41>", api.ErrForm}, {"xref -1 " + over, api.ErrForm}, {"xref x " + over, api.ErrForm},
		// In place of a number of entries.
		{"xref 0", api.ErrForm}, {"xref 0 -1", api.ErrForm}, {"xref 0 0.5", api.ErrForm}, {"xref 0 n", api.ErrForm}, {"xref 0 trailer<<>>", api.ErrForm}, {"xref 0 " + over, api.ErrOver}, {"xref 0 -1 " + over, api.ErrForm}, {"xref 0 )", api.ErrForm},
		// In place of an entry's first number.
		{"xref 0 1", api.ErrForm}, {"xref 0 1 -1 0 n", api.ErrForm}, {"xref 0 1 0.5 0 n", api.ErrForm}, {"xref 0 1 trailer<<>>", api.ErrForm}, {"xref 0 1 n", api.ErrForm}, {"xref 0 1 " + over, api.ErrOver}, {"xref 0 1 -1 " + over, api.ErrForm},
		{"xref 0 2 0 0 f trailer<<>>", api.ErrForm}, {"xref 0 1 " + long, api.ErrLong},
		// In place of its second one.
		{"xref 0 1 0", api.ErrForm}, {"xref 0 1 0 -1 f", api.ErrForm}, {"xref 0 1 0 0.5 f", api.ErrForm}, {"xref 0 1 0 n", api.ErrForm}, {"xref 0 1 0 " + over, api.ErrOver}, {"xref 0 1 0 -1 " + over, api.ErrForm}, {"xref 0 1 0 /0", api.ErrForm},
		// In place of its word.
		{"xref 0 1 0 0", api.ErrForm}, {"xref 0 1 0 0 0", api.ErrForm}, {"xref 0 1 0 0 x trailer<<>>", api.ErrForm}, {"xref 0 1 0 0 N trailer<<>>", api.ErrForm}, {"xref 0 1 0 0 nn trailer<<>>", api.ErrForm}, {"xref 0 1 0 0 /n trailer<<>>", api.ErrForm},
		{"xref 0 1 0 0 (f) trailer<<>>", api.ErrForm}, {"xref 0 1 0 0 trailer<<>>", api.ErrForm}, {"xref 0 1 0 0 " + over, api.ErrOver}, {"xref 0 1 0 0 " + long, api.ErrLong}, {"xref 0 1 0 0 )", api.ErrForm},
		// The numbers are held against their bounds behind the word.
		{"xref 0 1 10000000000 0 n trailer<<>>", api.ErrForm}, {"xref 0 1 10000000000 0 f trailer<<>>", api.ErrForm}, {"xref 0 1 10000000000 " + over, api.ErrOver}, {"xref 0 1 10000000000 0 " + over, api.ErrOver}, {"xref 0 1 10000000000 0 f " + over, api.ErrForm},
		{"xref 0 1 0 65536 f trailer<<>>", api.ErrForm}, {"xref 0 1 0 65536 n trailer<<>>", api.ErrForm}, {"xref 0 1 0 65536 " + over, api.ErrOver}, {"xref 0 1 0 65536 f " + over, api.ErrForm},
		{"xref 0 1 0 1 n trailer<<>>", api.ErrForm}, {"xref 0 1 0 65535 n trailer<<>>", api.ErrForm}, {"xref 0 1 0 1 " + long, api.ErrLong}, {"xref 0 1 0 1 n " + over, api.ErrForm},
		{"xref 8388608 1 0 0 f trailer<<>>", api.ErrForm}, {"xref 8388608 1 0 0 " + over, api.ErrOver}, {"xref 8388608 1 0 0 f " + over, api.ErrForm}, {"xref 8388607 2 0 0 f 0 0 f " + over, api.ErrForm}, {"xref 999999999999999999 1 0 0 f trailer<<>>", api.ErrForm},
		{"xref 5 1 0 0 f 5 1 0 0 f " + over, api.ErrForm}, {"xref 5 1 0 0 n 5 1 0 0 " + over, api.ErrOver}, {"xref 5 2 0 0 f 0 0 f 4 3 0 0 f 0 0 f " + over, api.ErrForm}, {"xref 5 1 0 0 f 5 1 1 0 n trailer<<>>", api.ErrForm},
		{"xref 0 999999999999999999 0 0 f", api.ErrForm},
		// The trailer.
		{"xref trailer", api.ErrNone}, {"xref trailer %<<>>", api.ErrNone}, {"xref trailer null", api.ErrForm}, {"xref trailer []", api.ErrForm}, {"xref trailer 1 0 R", api.ErrForm}, {"xref trailer 1 1 R", api.ErrForm}, {"xref trailer >>", api.ErrForm},
		{"xref trailer <<", api.ErrNone}, {"xref trailer <</A 1/A 2>>", api.ErrForm}, {"xref trailer " + over, api.ErrOver}, {"xref trailer " + strings.Repeat("[", 33), api.ErrDeep}, {"xref trailer /#", api.ErrForm}, {"xref trailer <</A " + long, api.ErrLong},
		{"xref trailer " + strings.Repeat("<</A ", 33), api.ErrDeep}, {"xref trailer xref", api.ErrForm},
	} {
		l, trailer, at, e := xref.Parse([]byte(c.in), 0)
		if l != nil || !reflect.DeepEqual(trailer, api.Obj{}) || at != 0 || e != c.want {
			t.Errorf("P16.1: %.60q: %v, %v, %d, %d, want %d", c.in, l, trailer, at, e, c.want)
		}
	}
	for _, at := range []int{-1, 20, math.MaxInt, math.MinInt} {
		if _, _, end, e := xref.Parse([]byte("xref trailer <<>>  "), at); end != 0 || e != api.ErrArg {
			t.Errorf("P16.1: at %d: %d, %d", at, end, e)
		}
	}
}

func TestParseIsLimited(t *testing.T) {
	full := strings.Repeat("1 0 n ", 65536)
	over := "1000000000000000000"
	for _, c := range []struct {
		name, in string
		want     int // the number of entries
		e        api.Errno
	}{
		{"65536", "xref 0 65536 " + full + "trailer<<>>", 65536, api.OK},
		{"65536 in two sections", "xref 0 65535 " + full[6:] + "70000 1 1 0 n trailer<<>>", 65536, api.OK},
		{"an empty section more", "xref 0 65536 " + full + " 0 0 trailer<<>>", 65536, api.OK},
		{"65537", "xref 0 65537 " + full + "1 0 n trailer<<>>", 0, api.ErrLong},
		{"65537 in two sections", "xref 0 65536 " + full + "70000 1 1 0 n trailer<<>>", 0, api.ErrLong},
		{"65537 with an Id twice", "xref 0 65536 " + full + "0 1 1 0 n trailer<<>>", 0, api.ErrLong},
		{"before the entry", "xref 0 65537 " + full + ")", 0, api.ErrLong},
		{"before the entry, a number", "xref 0 65537 " + full + over, 0, api.ErrLong},
		{"behind the section's numbers", "xref 0 65536 " + full + "70000 " + over, 0, api.ErrOver},
		{"behind the section's first number", "xref 0 65536 " + full + over, 0, api.ErrOver},
		{"the trailer is missing", "xref 0 65536 " + full, 0, api.ErrForm},
	} {
		l, _, _, e := xref.Parse([]byte(c.in), 0)
		if len(l) != c.want || e != c.e {
			t.Errorf("P16.1: %s: %d entries, %d, want %d, %d", c.name, len(l), e, c.want, c.e)
		}
	}
}

func TestPrint(t *testing.T) {
	for _, c := range []struct {
		l       []api.Entry
		trailer api.Obj
		want    string
	}{
		{[]api.Entry{free(0), used(1, 15)}, size(2), "xref\n0 2\n0000000000 65535 f \n0000000015 00000 n \ntrailer\n<< /Size 2 >>\n"},
		{nil, empty(), "xref\ntrailer\n<< >>\n"},
		{[]api.Entry{used(5, 0)}, empty(), "xref\n5 1\n0000000000 00000 n \ntrailer\n<< >>\n"},
		{[]api.Entry{used(1, 12), used(3, 123), free(4), used(8388606, 9999999999), used(8388607, 1234567890)}, empty(),
			"xref\n1 1\n0000000012 00000 n \n3 2\n0000000123 00000 n \n0000000000 65535 f \n8388606 2\n9999999999 00000 n \n1234567890 00000 n \ntrailer\n<< >>\n"},
	} {
		if s, e := xref.Print(c.l, c.trailer); s != c.want || e != api.OK {
			t.Errorf("P16.2: %v: %q, %d, want %q", c.l, s, e, c.want)
		}
	}
}

// notOrdered are lists that are not ordered.
func notOrdered() map[string][]api.Entry {
	return map[string][]api.Entry{
		"falling":               {used(2, 1), used(1, 1)},
		"an Id twice":           {used(1, 1), used(1, 1)},
		"falling at the end":    {used(1, 1), used(3, 1), used(2, 1)},
		"Id -1":                 {free(-1)},
		"an Id too great":       {free(8388608)},
		"the greatest Id":       {free(math.MaxInt)},
		"the least Id":          {free(math.MinInt), free(0)},
		"At -1":                 {used(1, -1)},
		"At too great":          {used(1, 10000000000)},
		"the greatest At":       {used(1, math.MaxInt)},
		"At of one not used":    {{Id: 1, At: 1}},
		"At -1 of one not used": {free(0), {Id: 1, At: -1}},
		"wrong at the end":      {free(0), free(1), {Id: 2, At: 1}},
	}
}

func TestPrintRefuses(t *testing.T) {
	many := make([]api.Entry, 65537)
	for i := range many {
		many[i] = used(2*i, i)
	}
	wrong := api.Obj{Kind: api.ObjRef}
	deep := api.Obj{Kind: api.ObjDict, Keys: []string{"A"}}
	deep.Parts = []api.Obj{deep}
	for range 33 {
		deep = api.Obj{Kind: api.ObjList, Parts: []api.Obj{deep}}
	}
	for name, l := range notOrdered() {
		for _, trailer := range []api.Obj{empty(), wrong, deep} {
			if s, e := xref.Print(l, trailer); s != "" || e != api.ErrArg {
				t.Errorf("P16.2: %s: %q, %d", name, s, e)
			}
		}
	}
	if s, e := xref.Print(many, deep); s != "" || e != api.ErrArg {
		t.Errorf("P16.2: 65537 entries: %d bytes, %d", len(s), e)
	}
	s, e := xref.Print(many[:65536], empty())
	if l, _, _, f := xref.Parse([]byte(s), 0); !slices.Equal(l, many[:65536]) || e != api.OK || f != api.OK {
		t.Errorf("P16.2: 65536 entries: %d bytes, %d, of which %d are parsed, %d", len(s), e, len(l), f)
	}
	for _, c := range []struct {
		trailer api.Obj
		want    api.Errno
	}{
		{wrong, api.ErrArg}, {deep, api.ErrDeep}, {api.Obj{}, api.ErrArg}, {api.Obj{Kind: api.ObjList}, api.ErrArg}, {api.Obj{Kind: api.ObjRef, Ref: 1}, api.ErrArg}, {api.Obj{Kind: api.ObjDict, Keys: []string{"A"}}, api.ErrArg},
	} {
		if s, e := xref.Print([]api.Entry{free(0)}, c.trailer); s != "" || e != c.want {
			t.Errorf("P16.2: a trailer of kind %d: %q, %d, want %d", c.trailer.Kind, s, e, c.want)
		}
	}
}

func TestMerge(t *testing.T) {
	for _, c := range []struct{ newer, older, want []api.Entry }{
		{nil, nil, nil},
		{nil, []api.Entry{used(1, 5)}, []api.Entry{used(1, 5)}},
		{[]api.Entry{used(1, 5)}, nil, []api.Entry{used(1, 5)}},
		{[]api.Entry{used(1, 6)}, []api.Entry{used(1, 5)}, []api.Entry{used(1, 6)}},
		{[]api.Entry{free(1)}, []api.Entry{used(1, 5)}, []api.Entry{free(1)}},
		{[]api.Entry{used(1, 5)}, []api.Entry{free(1)}, []api.Entry{used(1, 5)}},
		{[]api.Entry{free(0), used(2, 20), used(5, 50)}, []api.Entry{free(0), used(1, 1), used(2, 2), used(3, 3), free(4)}, []api.Entry{free(0), used(1, 1), used(2, 20), used(3, 3), free(4), used(5, 50)}},
		{[]api.Entry{used(3, 3), used(4, 4)}, []api.Entry{used(1, 1), used(2, 2)}, []api.Entry{used(1, 1), used(2, 2), used(3, 3), used(4, 4)}},
		{[]api.Entry{used(0, 9999999999)}, []api.Entry{used(8388607, 0)}, []api.Entry{used(0, 9999999999), used(8388607, 0)}},
	} {
		if l := xref.Merge(c.newer, c.older); !slices.Equal(l, c.want) {
			t.Errorf("P16.3: %v over %v: %v, want %v", c.newer, c.older, l, c.want)
		}
	}
	good := []api.Entry{free(0), used(7, 1)}
	for name, l := range notOrdered() {
		for _, other := range [][]api.Entry{nil, good, l} {
			if a, b := xref.Merge(l, other), xref.Merge(other, l); len(a) != 0 || len(b) != 0 {
				t.Errorf("P16.3: %s: %v, %v", name, a, b)
			}
		}
	}
}

// some returns an ordered list.
func some(r *rand.Rand) []api.Entry {
	var l []api.Entry
	for id := r.Intn(3); len(l) < 12 && r.Intn(8) > 0; id += 1 + r.Intn(3)*r.Intn(2) {
		if r.Intn(3) == 0 {
			l = append(l, free(id))
		} else {
			l = append(l, used(id, r.Intn(10000000000)))
		}
	}
	return l
}

// merge merges by a map, as the chapter says.
func merge(newer, older []api.Entry) []api.Entry {
	held := map[int]api.Entry{}
	for _, x := range slices.Concat(older, newer) {
		held[x.Id] = x
	}
	var l []api.Entry
	for _, x := range held {
		l = append(l, x)
	}
	sort.Slice(l, func(i, k int) bool { return l[i].Id < l[k].Id })
	return l
}

func TestProperties(t *testing.T) {
	r := rand.New(rand.NewSource(16))
	for range 3000 {
		a, b, c := some(r), some(r), some(r)
		ab := xref.Merge(a, b)
		if want := merge(a, b); !slices.Equal(ab, want) {
			t.Fatalf("P16.3: %v over %v: %v, want %v", a, b, ab, want)
		}
		if x, y := xref.Merge(ab, c), xref.Merge(a, xref.Merge(b, c)); !slices.Equal(x, y) {
			t.Fatalf("P16.4: %v, %v, %v: %v and %v", a, b, c, x, y)
		}
		if l := xref.Merge(a, a); !slices.Equal(l, a) {
			t.Fatalf("P16.4: %v with itself: %v", a, l)
		}
		s, e := xref.Print(a, size(len(a)))
		if e != api.OK {
			t.Fatalf("P16.2: %v: %d", a, e)
		}
		l, trailer, at, e := xref.Parse([]byte("x"+s+"x"), 1)
		if !slices.Equal(l, a) || !sameObj(trailer, size(len(a))) || at != len(s) || e != api.OK {
			t.Fatalf("P16.4: %q: %v, %v, %d, %d, want %v", s, l, trailer, at, e, a)
		}
	}
}

// A table is the same in whatever order its sections stand.
func TestSections(t *testing.T) {
	r := rand.New(rand.NewSource(161))
	for range 500 {
		want := some(r)
		in := "xref "
		for _, i := range r.Perm(len(want)) {
			x := want[i]
			in += strconv.Itoa(x.Id) + " 1 "
			if x.Used {
				in += fmt.Sprintf("%010d 00000 n\r\n", x.At)
			} else {
				in += fmt.Sprintf("%d %d f\r\n", r.Intn(10000000000), r.Intn(65536))
			}
		}
		l, _, _, e := xref.Parse([]byte(in+"trailer<<>>"), 0)
		if !slices.Equal(l, want) || e != api.OK {
			t.Fatalf("P16.1: %q: %v, %d, want %v", in, l, e, want)
		}
	}
}

func TestArgumentsAreKept(t *testing.T) {
	a := []api.Entry{used(1, 1), used(2, 2), used(9, 9)}
	b := []api.Entry{used(2, 3), used(4, 4), used(8, 8)}
	for _, l := range [][]api.Entry{xref.Merge(a[:2], b[:2]), xref.Merge(b[:2], a[:2]), xref.Merge(a[:2], nil), xref.Merge(nil, b[:2])} {
		clear(l)
		_ = append(l, free(0))
	}
	xref.Print(a[:2], size(1))
	if !slices.Equal(a, []api.Entry{used(1, 1), used(2, 2), used(9, 9)}) || !slices.Equal(b, []api.Entry{used(2, 3), used(4, 4), used(8, 8)}) {
		t.Errorf("R2: %v, %v", a, b)
	}
	in := "xref 1 1 5 0 n trailer<</A(x)>>???"
	text := []byte(in)
	_, trailer, _, _ := xref.Parse(text[:len(text)-3], 0)
	if string(text) != in {
		t.Errorf("R2: %q", text)
	}
	clear(text)
	if v, ok := obj.Get(trailer, "A"); !ok || v.Text != "x" {
		t.Errorf("R2: a trailer changes with the bytes: %v", trailer)
	}
}
