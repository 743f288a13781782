package font_test

import (
	"math"
	"math/rand"
	"reflect"
	"slices"
	"sort"
	"strings"
	"testing"

	"erasure/api"
	"erasure/cmap"
	"erasure/font"
)

func glyph(code, width int, text string) api.Glyph {
	return api.Glyph{Code: code, Width: width, Text: text}
}

func simple(glyphs ...api.Glyph) api.Font { return api.Font{Glyphs: glyphs} }

func wide(other int, glyphs ...api.Glyph) api.Font {
	return api.Font{Wide: true, Other: other, Glyphs: glyphs}
}

// many returns n glyphs of every other code.
func many(n int) []api.Glyph {
	var l []api.Glyph
	for i := range n {
		l = append(l, glyph(2*i, i%10001, ""))
	}
	return l
}

// right are valid fonts.
func right() []api.Font {
	return []api.Font{
		{}, {Wide: true}, {Other: 10000}, wide(10000), simple(glyph(65, 500, "")), simple(glyph(0, 0, "\x00a"), glyph(255, 10000, "0123456789abcdef")), wide(1000, glyph(0, 10000, "\xd8\x00"), glyph(65535, 0, "")),
		{Other: 7, Glyphs: []api.Glyph{glyph(1, 2, ""), glyph(2, 3, "ab"), glyph(9, 0, "")}}, wide(0, many(4096)...),
	}
}

// wrong are fonts that are not valid.
func wrong() map[string]api.Font {
	m := map[string]api.Font{
		"Other -1": {Other: -1}, "Other too great": {Other: 10001}, "wide and Other too great": wide(10001), "the least Other": wide(math.MinInt), "the greatest Other": wide(math.MaxInt),
		"code -1": simple(glyph(-1, 0, "")), "code 256": simple(glyph(256, 0, "")), "wide and code -1": wide(0, glyph(-1, 0, "")), "code 65536": wide(0, glyph(65536, 0, "")), "the greatest code": wide(0, glyph(math.MaxInt, 0, "")), "the least code": wide(0, glyph(math.MinInt, 0, "")),
		"falling": simple(glyph(2, 0, ""), glyph(1, 0, "")), "a code twice": simple(glyph(1, 0, ""), glyph(1, 0, "")), "falling at the end": wide(0, glyph(1, 0, ""), glyph(3, 0, ""), glyph(2, 0, "")),
		"width -1": simple(glyph(1, -1, "")), "a width too great": simple(glyph(1, 10001, "")), "wide and a width too great": wide(0, glyph(1, 0, ""), glyph(2, math.MaxInt, "")), "4097 glyphs": wide(0, many(4097)...),
		"code 256 at the end": simple(glyph(1, 0, ""), glyph(256, 0, "")),
	}
	for _, n := range []int{1, 3, 15, 17, 18, 20} {
		m["a text of "+strings.Repeat("x", n)] = simple(glyph(1, 0, strings.Repeat("x", n)))
	}
	return m
}

func TestCheck(t *testing.T) {
	for i, f := range right() {
		if e := font.Check(f); e != api.OK {
			t.Errorf("P19.1: font %d: %d", i, e)
		}
	}
	for name, f := range wrong() {
		if e := font.Check(f); e != api.ErrArg {
			t.Errorf("P19.1: Check, %s: %d", name, e)
		}
		if l, e := font.Codes(f, "abc"); l != nil || e != api.ErrArg {
			t.Errorf("P19.1: Codes, %s: %v, %d", name, l, e)
		}
		for _, codes := range [][]int{nil, {-1}} {
			if s, e := font.Bytes(f, codes); s != "" || e != api.ErrArg {
				t.Errorf("P19.1: Bytes, %s: %q, %d", name, s, e)
			}
			if s, e := font.Means(f, codes); s != "" || e != api.ErrArg {
				t.Errorf("P19.2: Means, %s: %q, %d", name, s, e)
			}
			if g, e := font.Cut(f, codes); !reflect.DeepEqual(g, api.Font{}) || e != api.ErrArg {
				t.Errorf("P19.2: Cut, %s: %v, %d", name, g, e)
			}
		}
		if o, l, e := font.Write(f); !reflect.DeepEqual(o, api.Obj{}) || l != nil || e != api.ErrArg {
			t.Errorf("P19.4: Write, %s: %v, %v, %d", name, o, l, e)
		}
	}
}

func TestFind(t *testing.T) {
	a := simple(glyph(65, 500, "\x00A"), glyph(67, 0, ""))
	odd := api.Font{Other: -5, Glyphs: []api.Glyph{glyph(9, 1, "x"), glyph(-3, 99999, "abc"), glyph(9, 2, "y"), glyph(2, 3, "")}}
	for _, c := range []struct {
		f    api.Font
		code int
		want api.Glyph
	}{
		{a, 65, glyph(65, 500, "\x00A")}, {a, 66, glyph(66, 0, "")}, {a, 67, glyph(67, 0, "")}, {a, 0, glyph(0, 0, "")}, {wide(1000), 65, glyph(65, 1000, "")}, {wide(1000, a.Glyphs...), 65, a.Glyphs[0]}, {wide(1000, a.Glyphs...), 67, a.Glyphs[1]}, {api.Font{}, 7, glyph(7, 0, "")},
		// Any font, and any code.
		{odd, 9, glyph(9, 1, "x")}, {odd, -3, glyph(-3, 99999, "abc")}, {odd, 2, glyph(2, 3, "")}, {odd, 1, glyph(1, -5, "")}, {a, -1, glyph(-1, 0, "")}, {a, 256, glyph(256, 0, "")}, {wide(7), math.MaxInt, glyph(math.MaxInt, 7, "")}, {wide(7), math.MinInt, glyph(math.MinInt, 7, "")},
		{wide(3, many(5000)...), 9998, glyph(9998, 4999, "")},
	} {
		if g := font.Find(c.f, c.code); g != c.want {
			t.Errorf("P19.1: %d: %v, want %v", c.code, g, c.want)
		}
	}
}

func TestCodesAndBytes(t *testing.T) {
	for _, c := range []struct {
		f    api.Font
		s    string
		want []int
	}{
		{simple(), "", nil}, {simple(), "A", []int{65}}, {simple(), "\x00A\xff", []int{0, 65, 255}}, {wide(0), "", nil}, {wide(0), "\x00A\x01\x02", []int{65, 258}}, {wide(9, glyph(1, 1, "")), "\xff\xff\x00\x00\x01\x00\x00\x01", []int{65535, 0, 256, 1}},
	} {
		if l, e := font.Codes(c.f, c.s); !slices.Equal(l, c.want) || e != api.OK {
			t.Errorf("P19.1: Codes of %q: %v, %d, want %v", c.s, l, e, c.want)
		}
		if s, e := font.Bytes(c.f, c.want); s != c.s || e != api.OK {
			t.Errorf("P19.1: Bytes of %v: %q, %d, want %q", c.want, s, e, c.s)
		}
	}
	for _, s := range []string{"a", "abc", "\x00"} {
		if l, e := font.Codes(wide(0), s); l != nil || e != api.ErrForm {
			t.Errorf("P19.1: Codes of %q: %v, %d", s, l, e)
		}
	}
	for _, c := range []struct {
		f     api.Font
		codes []int
	}{{simple(), []int{-1}}, {simple(), []int{256}}, {simple(), []int{1, 2, 65535}}, {wide(0), []int{-1}}, {wide(0), []int{65536}}, {wide(0), []int{1, 2, math.MaxInt}}, {simple(), []int{math.MinInt, 1}}} {
		if s, e := font.Bytes(c.f, c.codes); s != "" || e != api.ErrArg {
			t.Errorf("P19.1: Bytes of %v: %q, %d", c.codes, s, e)
		}
		if s, e := font.Means(c.f, c.codes); s != "" || e != api.ErrArg {
			t.Errorf("P19.2: Means of %v: %q, %d", c.codes, s, e)
		}
	}
}

func TestMeans(t *testing.T) {
	f := simple(glyph(1, 0, "\x00a"), glyph(2, 5, ""), glyph(3, 0, "\x00f\x00f\x20\xac"), glyph(4, 0, "\xd8\x00"), glyph(5, 0, "\xd8\x00\xdc\x00"))
	w := wide(1000, append(slices.Clone(f.Glyphs), glyph(65535, 0, "\x00z"))...)
	for _, c := range []struct {
		f     api.Font
		codes []int
		want  string
		e     api.Errno
	}{
		{f, nil, "", api.OK}, {f, []int{1}, "a", api.OK}, {f, []int{1, 3, 1}, "aff€a", api.OK}, {f, []int{2, 0, 255}, "", api.OK}, {f, []int{5, 2, 1}, "\U00010000a", api.OK}, {w, []int{65535, 1, 999}, "za", api.OK},
		{f, []int{4}, "", api.ErrForm}, {f, []int{1, 4, 1}, "", api.ErrForm}, {w, []int{4, 65536}, "", api.ErrArg}, {f, []int{4, -1}, "", api.ErrArg}, {f, []int{4, 256}, "", api.ErrArg}, {w, []int{65535, 4}, "", api.ErrForm},
		// A pair that is cut in two is none.
		{simple(glyph(1, 0, "\xd8\x00"), glyph(2, 0, "\xdc\x00")), []int{1, 2}, "", api.ErrForm},
	} {
		if s, e := font.Means(c.f, c.codes); s != c.want || e != c.e {
			t.Errorf("P19.2: Means of %v: %q, %d, want %q, %d", c.codes, s, e, c.want, c.e)
		}
	}
}

func TestCut(t *testing.T) {
	a, b, c := glyph(65, 500, "\x00A"), glyph(67, 0, ""), glyph(255, 10, "")
	f := simple(a, b, c)
	g := api.Font{Other: 7, Glyphs: f.Glyphs}
	w := wide(1000, a, b, c)
	for _, x := range []struct {
		name string
		f    api.Font
		keep []int
		want api.Font
	}{
		{"nothing", f, nil, simple()}, {"one", f, []int{65}, simple(a)}, {"in another order, and twice", f, []int{255, 65, 255, 65}, simple(a, c)}, {"without a width", f, []int{67}, simple(b)}, {"others", f, []int{0, 66, 254}, simple()},
		{"no codes", f, []int{-1, 256, 65601, math.MaxInt, math.MinInt}, simple()}, {"all", f, []int{65, 66, 67, 255}, f}, {"nothing, with Other", g, nil, simple()}, {"others, with Other", g, []int{66, 65, 0}, simple(glyph(0, 7, ""), a, glyph(66, 7, ""))},
		{"no codes, with Other", g, []int{-1, 256, math.MaxInt, math.MinInt, 255}, simple(c)}, {"wide", w, []int{65535, 1, 67, 1, 65536, -1}, wide(0, glyph(1, 1000, ""), b, glyph(65535, 1000, ""))}, {"wide and 256", w, []int{256, 255}, wide(0, c, glyph(256, 1000, ""))},
		{"wide, without Other", wide(0, a), []int{65, 66}, wide(0, a)}, {"the least Other", wide(1), []int{7}, wide(0, glyph(7, 1, ""))},
	} {
		got, e := font.Cut(x.f, x.keep)
		if got.Wide != x.want.Wide || got.Other != 0 || !slices.Equal(got.Glyphs, x.want.Glyphs) || e != api.OK {
			t.Errorf("P19.2: %s: %v, %d, want %v", x.name, got, e, x.want)
		}
	}
}

// some returns a valid font.
func some(r *rand.Rand) api.Font {
	f := api.Font{Wide: r.Intn(2) == 0}
	codes, step := 256, 40
	if f.Wide {
		codes, step, f.Other = 65536, 4000, r.Intn(3)*r.Intn(5001)
	}
	for code := r.Intn(step); code < codes; code++ {
		text := make([]byte, 2*r.Intn(9))
		for i := range text {
			text[i] = byte(r.Intn(128))
		}
		f.Glyphs = append(f.Glyphs, glyph(code, r.Intn(10001)*r.Intn(2), string(text)))
		if r.Intn(3) == 0 {
			code += r.Intn(step)
		}
	}
	return f
}

func allCodes(f api.Font) int {
	if f.Wide {
		return 65536
	}
	return 256
}

func TestCutKeepsWhatIsFound(t *testing.T) {
	r := rand.New(rand.NewSource(19))
	for range 200 {
		f := some(r)
		kept := map[int]bool{}
		var keep []int
		for range r.Intn(40) {
			code := r.Intn(allCodes(f))
			if len(f.Glyphs) > 0 && r.Intn(2) == 0 {
				code = f.Glyphs[r.Intn(len(f.Glyphs))].Code
			}
			kept[code], keep = true, append(keep, code)
		}
		g, e := font.Cut(f, keep)
		if font.Check(g) != api.OK || e != api.OK {
			t.Fatalf("P19.2: %v, cut to %v: %v, %d", f, keep, g, e)
		}
		for range 300 {
			code := r.Intn(allCodes(f))
			if len(keep) > 0 && r.Intn(2) == 0 {
				code = keep[r.Intn(len(keep))]
			}
			want := glyph(code, 0, "")
			if kept[code] {
				want = font.Find(f, code)
			}
			if got := font.Find(g, code); got != want {
				t.Fatalf("P19.5: %v, cut to %v: %v, want %v", f, keep, got, want)
			}
		}
		all := make([]int, allCodes(f))
		for i := range all {
			all[i] = i
		}
		if s, e := font.Bytes(f, keep); e != api.OK {
			t.Fatalf("P19.1: %v: %d", keep, e)
		} else if l, e := font.Codes(f, s); !slices.Equal(l, keep) || e != api.OK {
			t.Fatalf("P19.1: %v: %v, %d", keep, l, e)
		}
		want := ""
		for _, code := range keep {
			text, _ := cmap.Text(font.Find(f, code).Text)
			want += text
		}
		if s, e := font.Means(f, keep); s != want || e != api.OK {
			t.Fatalf("P19.2: %v: %q, %d, want %q", keep, s, e, want)
		}
	}
}

// The example of the chapter.
func TestExample(t *testing.T) {
	f := simple(glyph(65, 500, ""))
	if a, b := font.Find(f, 65).Width, font.Find(f, 66).Width; a != 500 || b != 0 {
		t.Errorf("P19.1: %d, %d", a, b)
	}
}

func TestArgumentsAreKept(t *testing.T) {
	glyphs := []api.Glyph{glyph(1, 10, "\x00a"), glyph(2, 20, ""), glyph(4, 40, "\x00d"), glyph(9, 90, "\x00x")}
	kept := slices.Clone(glyphs)
	keep := []int{4, 1, 4, 3}
	f := wide(5, glyphs[:3]...)
	f.Glyphs = glyphs[:3]
	g, _ := font.Cut(f, keep[:3])
	clear(g.Glyphs)
	_ = append(g.Glyphs, api.Glyph{})
	codes, _ := font.Codes(f, "\x00\x01")
	clear(codes)
	font.Bytes(f, keep[:3])
	font.Means(f, keep[:3])
	o, means, _ := font.Write(f)
	clear(means)
	o.Parts[3].Parts[1].Parts[0] = api.Obj{}
	in := []api.Glyph{glyph(1, 0, "\x00b"), glyph(3, 0, "\x00c"), glyph(7, 0, "\x00g"), glyph(8, 0, "\x00h")}
	also := slices.Clone(in)
	o, _, _ = font.Write(f)
	h, e := font.Read(o, in[:3])
	if e != api.OK {
		t.Fatal(e)
	}
	clear(h.Glyphs)
	_ = append(h.Glyphs, api.Glyph{})
	if !slices.Equal(glyphs, kept) || !slices.Equal(keep, []int{4, 1, 4, 3}) || !slices.Equal(in, also) || !sort.SliceIsSorted(glyphs, func(i, k int) bool { return glyphs[i].Code < glyphs[k].Code }) {
		t.Errorf("R2: %v, %v, %v", glyphs, keep, in)
	}
	h, _ = font.Read(o, nil)
	clear(h.Glyphs)
	if again, _ := font.Read(o, nil); !slices.Equal(again.Glyphs, []api.Glyph{glyph(1, 10, ""), glyph(2, 20, ""), glyph(4, 40, "")}) {
		t.Errorf("R2: %v", again)
	}
}
