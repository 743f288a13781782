package cmap_test

import (
	"fmt"
	"math"
	"math/rand"
	"slices"
	"strings"
	"testing"
	"unicode/utf16"

	"erasure/api"
	"erasure/cmap"
)

const over = "1000000000000000000"

func glyph(code int, text string) api.Glyph { return api.Glyph{Code: code, Text: text} }

func long() string { return strings.Repeat("x", 128) }

// example are the mappings of the chapter's example.
func example() []api.Glyph {
	return []api.Glyph{glyph(0x41, "\x00a"), glyph(0x42, "\x00b"), glyph(0x43, "\x00c")}
}

func TestParse(t *testing.T) {
	for _, c := range []struct {
		in   string
		wide bool
		want []api.Glyph
	}{
		{"1 beginbfrange <41> <43> <0061> endbfrange", false, example()},
		{"", false, nil}, {"%", true, nil}, {"beginbfchar endbfchar beginbfrange endbfrange", false, nil},
		{"beginbfchar<41><0061>endbfchar", false, example()[:1]}, {"beginbfchar<42><0062>(A)(\\000a)endbfchar", false, example()[:2]}, {"beginbfchar<43><0063>endbfchar beginbfchar<41><0061>endbfchar beginbfchar<42><0062>endbfchar", false, example()},
		{"beginbfchar<0041><0061><4100><0061>endbfchar", true, []api.Glyph{glyph(0x41, "\x00a"), glyph(0x4100, "\x00a")}}, {"beginbfchar<00><0000><ff><ffff>endbfchar", false, []api.Glyph{glyph(0, "\x00\x00"), glyph(255, "\xff\xff")}},
		{"beginbfchar<0000><0000><ffff><ffff>endbfchar", true, []api.Glyph{glyph(0, "\x00\x00"), glyph(65535, "\xff\xff")}}, {"beginbfchar<01ff><d800>endbfchar", true, []api.Glyph{glyph(511, "\xd8\x00")}},
		{"beginbfchar<41><0123456789abcdef0123456789abcdef>endbfchar", false, []api.Glyph{glyph(0x41, "\x01\x23\x45\x67\x89\xab\xcd\xef\x01\x23\x45\x67\x89\xab\xcd\xef")}},
		// What stands outside of the blocks does not matter.
		{"/CIDInit /ProcSet findresource begin 12 dict begin begincmap<<>>[1(a)]true begincodespacerange<00><ff>endcodespacerange 1 beginbfchar<41><0061>endbfchar endcmap >> ] [ 1 0 R", false, example()[:1]},
		{"endbfchar endbfrange <41><0061> beginbfchar endbfchar <42><0062>", false, nil}, {"/beginbfchar <41> (beginbfrange) beginbfchars Beginbfchar", false, nil}, {"-5 beginbfchar%\n<41>%\n<0061>%\nendbfchar%", false, example()[:1]},
		// Ranges.
		{"beginbfrange<41><41><0061>endbfrange", false, example()[:1]}, {"beginbfrange<41><43>[<0061><0062><0063>]endbfrange", false, example()}, {"beginbfrange<41><41>[<0061>]<42><43><0062>endbfrange", false, example()},
		{"beginbfrange<42><43><0062><41><41><0061>endbfrange", false, example()}, {"beginbfrange<41><42>[<0061>(\\000b)]endbfrange beginbfchar<43><0063>endbfchar", false, example()}, {"beginbfrange<41><42><01fe>endbfrange", false, []api.Glyph{glyph(0x41, "\x01\xfe"), glyph(0x42, "\x01\xff")}},
		{"beginbfrange<41><42><00660069>endbfrange", false, []api.Glyph{glyph(0x41, "\x00f\x00i"), glyph(0x42, "\x00f\x00j")}}, {"beginbfrange<00fe><0101><0041>endbfrange", true, []api.Glyph{glyph(254, "\x00A"), glyph(255, "\x00B"), glyph(256, "\x00C"), glyph(257, "\x00D")}},
		{"beginbfrange<fffe><ffff><ffff0000>endbfrange", true, []api.Glyph{glyph(65534, "\xff\xff\x00\x00"), glyph(65535, "\xff\xff\x00\x01")}}, {"beginbfrange<00ff><0100>[<0041><00420043>]endbfrange", true, []api.Glyph{glyph(255, "\x00A"), glyph(256, "\x00B\x00C")}},
		{"beginbfrange<41><42><0123456789abcdef0123456789abcd00>endbfrange", false, []api.Glyph{glyph(0x41, "\x01\x23\x45\x67\x89\xab\xcd\xef\x01\x23\x45\x67\x89\xab\xcd\x00"), glyph(0x42, "\x01\x23\x45\x67\x89\xab\xcd\xef\x01\x23\x45\x67\x89\xab\xcd\x01")}},
	} {
		l, e := cmap.Parse([]byte(c.in), c.wide)
		if !slices.Equal(l, c.want) || e != api.OK {
			t.Errorf("P18.1: %q: %v, %d, want %v", c.in, l, e, c.want)
		}
	}
	l, e := cmap.Parse([]byte("beginbfrange<00><ff><0000>endbfrange"), false)
	if len(l) != 256 || l[0] != glyph(0, "\x00\x00") || l[255] != glyph(255, "\x00\xff") || e != api.OK {
		t.Errorf("P18.1: a range of all: %d, %d", len(l), e)
	}
}

func TestParseTellsErrors(t *testing.T) {
	seventeen := strings.Repeat("0", 36)
	for _, c := range []struct {
		in   string
		want api.Errno
	}{
		{")", api.ErrForm}, {over, api.ErrOver}, {long(), api.ErrLong}, {"(", api.ErrForm}, {"beginbfchar<41><0061>endbfchar " + over, api.ErrOver}, {"/#", api.ErrForm}, {"{", api.ErrForm},
		// Pairs.
		{"beginbfchar", api.ErrForm}, {"beginbfchar<41>", api.ErrForm}, {"beginbfchar<41><0061>", api.ErrForm}, {"beginbfchar<41>endbfchar", api.ErrForm}, {"beginbfchar<41><0061>endbfrange", api.ErrForm}, {"beginbfchar<41><0061><42>endbfchar", api.ErrForm}, {"beginbfchar<41><0061>endbfcha", api.ErrForm},
		{"beginbfchar 65<0061>endbfchar", api.ErrForm}, {"beginbfchar/A<0061>endbfchar", api.ErrForm}, {"beginbfchar[<0061>endbfchar", api.ErrForm}, {"beginbfchar<41>/a endbfchar", api.ErrForm}, {"beginbfchar<41>97 endbfchar", api.ErrForm}, {"beginbfchar<41>[<0061>]endbfchar", api.ErrForm}, {"beginbfchar<41>a endbfchar", api.ErrForm},
		{"beginbfchar/endbfchar<0061>endbfchar", api.ErrForm}, {"beginbfchar(endbfchar)<0061>endbfchar", api.ErrForm}, {"beginbfchar A<0061>endbfchar", api.ErrForm}, {"beginbfchar<41>/ab endbfchar", api.ErrForm},
		{"beginbfchar<><0061>endbfchar", api.ErrForm}, {"beginbfchar<4142><0061>endbfchar", api.ErrForm}, {"beginbfchar<414243><0061>endbfchar", api.ErrForm},
		{"beginbfchar<41><>endbfchar", api.ErrForm}, {"beginbfchar<41><61>endbfchar", api.ErrForm}, {"beginbfchar<41><000061>endbfchar", api.ErrForm}, {"beginbfchar<41><" + seventeen + ">endbfchar", api.ErrForm}, {"beginbfchar<41><" + seventeen[:34] + ">endbfchar", api.ErrForm},
		{"beginbfchar<41><0061><41><0061>endbfchar", api.ErrForm}, {"beginbfchar<41><0061>endbfchar beginbfchar<41><0062>endbfchar", api.ErrForm}, {"beginbfchar<41><0061>endbfchar beginbfrange<40><42><0062>endbfrange", api.ErrForm},
		// An error on the way comes first, and so does a pair that is whole.
		{"beginbfchar " + over, api.ErrOver}, {"beginbfchar<41> " + over, api.ErrOver}, {"beginbfchar<> " + over, api.ErrOver}, {"beginbfchar 65 " + over, api.ErrOver}, {"beginbfchar 65<0061> " + over, api.ErrForm}, {"beginbfchar<41><> " + over, api.ErrForm}, {"beginbfchar<41><0061> " + over, api.ErrOver},
		{"beginbfchar<41><0061><41><0061> " + over, api.ErrForm}, {"beginbfchar<41><0061><41> " + over, api.ErrOver}, {"beginbfchar<4142><0061> " + over, api.ErrForm}, {"beginbfchar<41>endbfchar " + over, api.ErrForm}, {"beginbfchar<41> " + long(), api.ErrLong},
		// Ranges.
		{"beginbfrange", api.ErrForm}, {"beginbfrange<41>", api.ErrForm}, {"beginbfrange<41><42>", api.ErrForm}, {"beginbfrange<41><42><0061>", api.ErrForm}, {"beginbfrange<41><42><0061>endbfchar", api.ErrForm}, {"beginbfrange<41>endbfrange", api.ErrForm}, {"beginbfrange<41><42>endbfrange", api.ErrForm},
		{"beginbfrange 65<42><0061>endbfrange", api.ErrForm}, {"beginbfrange<41>66<0061>endbfrange", api.ErrForm}, {"beginbfrange<41><42>97 endbfrange", api.ErrForm}, {"beginbfrange<41><42>/ab endbfrange", api.ErrForm}, {"beginbfrange<41><42><<endbfrange", api.ErrForm}, {"beginbfrange<41><42>]endbfrange", api.ErrForm},
		{"beginbfrange<0041><42><0061>endbfrange", api.ErrForm}, {"beginbfrange<41><0042><0061>endbfrange", api.ErrForm}, {"beginbfrange<><42><0061>endbfrange", api.ErrForm}, {"beginbfrange<41><><0061>endbfrange", api.ErrForm}, {"beginbfrange/A<42><0061>endbfrange", api.ErrForm}, {"beginbfrange<41>B<0061>endbfrange", api.ErrForm},
		{"beginbfrange<42><41><0061>endbfrange", api.ErrForm}, {"beginbfrange<42><41>[]endbfrange", api.ErrForm}, {"beginbfrange<41><42><61>endbfrange", api.ErrForm}, {"beginbfrange<41><42><>endbfrange", api.ErrForm}, {"beginbfrange<41><41><000061>endbfrange", api.ErrForm}, {"beginbfrange<41><41><" + seventeen + ">endbfrange", api.ErrForm},
		{"beginbfrange<41><42><00ff>endbfrange", api.ErrForm}, {"beginbfrange<41><43><00fe>endbfrange", api.ErrForm}, {"beginbfrange<00><ff><0001>endbfrange", api.ErrForm}, {"beginbfrange<41><42><00ff> " + over, api.ErrForm}, {"beginbfrange<41><42><61> " + over, api.ErrForm}, {"beginbfrange<42><41><0061> " + over, api.ErrForm},
		{"beginbfrange<41><42><0061><42><42><0062>endbfrange", api.ErrForm}, {"beginbfrange<41><42><0061><40><44><0062> " + over, api.ErrForm}, {"beginbfrange " + over, api.ErrOver}, {"beginbfrange 65 " + over, api.ErrOver}, {"beginbfrange<42><41> " + over, api.ErrOver}, {"beginbfrange 65 66 67 " + over, api.ErrForm},
		{"beginbfrange<42><41>[ " + over, api.ErrForm}, {"beginbfrange 65<42>[ " + over, api.ErrForm}, {"beginbfrange<41>endbfrange " + over, api.ErrOver}, {"beginbfrange<41><42>endbfrange " + over, api.ErrForm},
		// Lists.
		{"beginbfrange<41><42>[<0061>]endbfrange", api.ErrForm}, {"beginbfrange<41><42>[]endbfrange", api.ErrForm}, {"beginbfrange<41><42>[<0061><0062><0063>]endbfrange", api.ErrForm}, {"beginbfrange<41><42>[<0061><0062>endbfrange", api.ErrForm}, {"beginbfrange<41><42>[<0061><0062>", api.ErrForm}, {"beginbfrange<41><42>[<0061>", api.ErrForm},
		{"beginbfrange<41><42>[<0061>98]endbfrange", api.ErrForm}, {"beginbfrange<41><42>[/ab<0062>]endbfrange", api.ErrForm}, {"beginbfrange<41><42>[[<0061><0062>]]endbfrange", api.ErrForm}, {"beginbfrange<41><42>[<0061><62>]endbfrange", api.ErrForm}, {"beginbfrange<41><42>[<><0062>]endbfrange", api.ErrForm}, {"beginbfrange<41><42>[<0061><" + seventeen + ">]endbfrange", api.ErrForm},
		{"beginbfrange<41><42>[<0061><0062>]", api.ErrForm}, {"beginbfrange<41><42>[<0061><0062>>>", api.ErrForm}, {"beginbfrange<41><42>[<61> " + over, api.ErrForm}, {"beginbfrange<41><42>[97 " + over, api.ErrForm}, {"beginbfrange<41><42>[<0061> " + over, api.ErrOver}, {"beginbfrange<41><42>[ " + over, api.ErrOver}, {"beginbfrange<41><42>[<0061><0062> " + over, api.ErrOver},
		{"beginbfrange<41><42>[<0061><0062>] " + over, api.ErrOver}, {"beginbfrange<41><42>[<0061>] " + over, api.ErrForm}, {"beginbfrange<41><42>[<0061><0062>x " + over, api.ErrForm}, {"beginbfrange<41><42>[<0061>" + long(), api.ErrLong}, {"beginbfchar<41><0061>endbfchar beginbfrange<41><42>[<0061> " + over, api.ErrForm},
	} {
		if l, e := cmap.Parse([]byte(c.in), false); l != nil || e != c.want {
			t.Errorf("P18.1: %.80q: %v, %d, want %d", c.in, l, e, c.want)
		}
	}
	for _, in := range []string{"beginbfchar<41><0061>endbfchar", "beginbfchar<><0061>endbfchar", "beginbfchar<004100><0061>endbfchar", "beginbfrange<41><42><0061>endbfrange", "beginbfrange<0041><42><0061>endbfrange", "beginbfrange<0041><004200><0061>endbfrange", "beginbfrange<0100><00ff><0061>endbfrange"} {
		if l, e := cmap.Parse([]byte(in), true); l != nil || e != api.ErrForm {
			t.Errorf("P18.1: wide: %q: %v, %d", in, l, e)
		}
	}
}

func TestParseIsLimited(t *testing.T) {
	full := ""
	for i := range 16 {
		full += fmt.Sprintf("<%02x00><%02xff><0000>", i, i)
	}
	for _, c := range []struct {
		name, in string
		want     int
		e        api.Errno
	}{
		{"4096", "beginbfrange" + full + "endbfrange", 4096, api.OK},
		{"one more", "beginbfrange" + full + "endbfrange beginbfchar<1000><0061>endbfchar", 0, api.ErrLong},
		{"one more in a range", "beginbfrange" + full + "<1000><1000><0061>endbfrange", 0, api.ErrLong},
		{"one more in a list", "beginbfrange" + full + "<1000><1000>[<0061>]endbfrange", 0, api.ErrLong},
		{"one that is there already", "beginbfrange" + full + "<0000><0000><0061>endbfrange", 0, api.ErrLong},
		{"one without a text", "beginbfrange" + full + "<1000><1000>[<>]endbfrange", 0, api.ErrForm},
		{"one without a text, in a pair", "beginbfrange" + full + "endbfrange beginbfchar<1000><>endbfchar", 0, api.ErrForm},
		{"a range that exceeds 255", "beginbfrange" + full + "<1000><1001><00ff>endbfrange", 0, api.ErrForm},
		{"no string", "beginbfrange" + full + "<1000><1000>[1]endbfrange", 0, api.ErrForm},
		{"no end", "beginbfrange" + full, 0, api.ErrForm},
		{"the token behind", "beginbfrange" + full + over, 0, api.ErrOver},
		{"before the token behind", "beginbfrange" + full + "<1000><1001>[<0061> " + over, 0, api.ErrLong},
	} {
		if l, e := cmap.Parse([]byte(c.in), true); len(l) != c.want || e != c.e {
			t.Errorf("P18.1: %s: %d mappings, %d, want %d, %d", c.name, len(l), e, c.want, c.e)
		}
	}
}

// numbered returns n mappings.
func numbered(n int) []api.Glyph {
	var l []api.Glyph
	for i := range n {
		l = append(l, glyph(2*i, string([]byte{byte(i / 256), byte(i)})))
	}
	return l
}

func TestPrint(t *testing.T) {
	for _, c := range []struct {
		l    []api.Glyph
		wide bool
		want string
	}{
		{nil, false, ""}, {nil, true, ""}, {[]api.Glyph{}, false, ""},
		{example(), false, "3 beginbfchar <41> <0061> <42> <0062> <43> <0063> endbfchar"}, {example(), true, "3 beginbfchar <0041> <0061> <0042> <0062> <0043> <0063> endbfchar"},
		{[]api.Glyph{glyph(0, "\x00\x00"), glyph(255, "\xff\xff")}, false, "2 beginbfchar <00> <0000> <ff> <ffff> endbfchar"}, {[]api.Glyph{glyph(256, "\xd8\x00"), glyph(65535, "0123456789abcdef")}, true, "2 beginbfchar <0100> <d800> <ffff> <30313233343536373839616263646566> endbfchar"},
	} {
		if s, e := cmap.Print(c.l, c.wide); s != c.want || e != api.OK {
			t.Errorf("P18.2: %v: %q, %d, want %q", c.l, s, e, c.want)
		}
	}
	for n, want := range map[int][]int{99: {99}, 100: {100}, 101: {100, 1}, 200: {100, 100}, 250: {100, 100, 50}} {
		s, e := cmap.Print(numbered(n), true)
		lines := strings.Split(s, "\n")
		if len(lines) != len(want) || e != api.OK {
			t.Errorf("P18.2: %d mappings: %d lines, %d", n, len(lines), e)
			continue
		}
		for i, line := range lines {
			words := strings.Split(line, " ")
			if len(words) != 2*want[i]+3 || words[0] != fmt.Sprint(want[i]) || words[1] != "beginbfchar" || words[2] != fmt.Sprintf("<%04x>", 200*i) || words[3] != fmt.Sprintf("<%04x>", 100*i) || words[len(words)-1] != "endbfchar" {
				t.Errorf("P18.2: %d mappings: %q", n, line)
			}
		}
	}
}

func TestPrintRefuses(t *testing.T) {
	for name, l := range map[string][]api.Glyph{
		"falling": {glyph(2, "ab"), glyph(1, "ab")}, "a code twice": {glyph(1, "ab"), glyph(1, "ab")}, "falling at the end": {glyph(1, "ab"), glyph(3, "ab"), glyph(2, "ab")}, "code -1": {glyph(-1, "ab")}, "code 65536": {glyph(65536, "ab")},
		"the greatest code": {glyph(math.MaxInt, "ab")}, "the least code": {glyph(math.MinInt, "ab")}, "no text": {glyph(1, "")}, "a text of 1": {glyph(1, "a")}, "a text of 3": {glyph(1, "abc")}, "a text of 15": {glyph(1, "abcdefghijklmno")}, "a text of 17": {glyph(1, "abcdefghijklmnopq")},
		"a text of 18": {glyph(1, "abcdefghijklmnopqr")}, "a width": {{Code: 1, Text: "ab", Width: 1}}, "a width below 0": {{Code: 1, Text: "ab", Width: -1}}, "something wrong at the end": {glyph(1, "ab"), glyph(2, "ab"), glyph(3, "")}, "4097": numbered(4097),
	} {
		for _, wide := range []bool{false, true} {
			if s, e := cmap.Print(l, wide); s != "" || e != api.ErrArg {
				t.Errorf("P18.2: %s: %.80q, %d", name, s, e)
			}
		}
	}
	for _, code := range []int{256, 65535} {
		if s, e := cmap.Print([]api.Glyph{glyph(code, "ab")}, false); s != "" || e != api.ErrArg {
			t.Errorf("P18.2: code %d: %q, %d", code, s, e)
		}
	}
	if s, e := cmap.Print(numbered(4096), true); strings.Count(s, "beginbfchar") != 41 || e != api.OK {
		t.Errorf("P18.2: 4096 mappings: %d bytes, %d", len(s), e)
	}
}

func TestText(t *testing.T) {
	for _, c := range []struct {
		in, want string
		e        api.Errno
	}{
		{"", "", api.OK}, {"\x00a", "a", api.OK}, {"\x00a\x00\xe9\x20\xac", "aé€", api.OK}, {"\x00\x00", "\x00", api.OK}, {"\x00\x7f\x00\x80\x07\xff\x08\x00", "\x7f\u0080\u07ff\u0800", api.OK}, {"\xd7\xff\xe0\x00\xff\xff\xff\xfd", "\ud7ff\ue000\uffff\ufffd", api.OK},
		{"\xd8\x00\xdc\x00", "\U00010000", api.OK}, {"\xdb\xff\xdf\xff", "\U0010ffff", api.OK}, {"\xd8\x3d\xde\x00\x00a", "\U0001f600a", api.OK}, {"\xd8\x00\xdf\xff\xdb\xff\xdc\x00", "\U000103ff\U0010fc00", api.OK}, {"\xfe\xff\x00a", "\ufeffa", api.OK},
		{"a", "", api.ErrForm}, {"\x00ab", "", api.ErrForm}, {"\xd8\x00", "", api.ErrForm}, {"\xdc\x00", "", api.ErrForm}, {"\xdf\xff", "", api.ErrForm}, {"\xdb\xff", "", api.ErrForm}, {"\xd8\x00\x00a", "", api.ErrForm}, {"\xd8\x00\xd8\x00\xdc\x00", "", api.ErrForm}, {"\xdc\x00\xd8\x00", "", api.ErrForm},
		{"\xd8\x00\xdc", "", api.ErrForm}, {"\xd8\x00\xdb\xff", "", api.ErrForm}, {"\xd8\x00\xe0\x00", "", api.ErrForm}, {"\xd8\x00\xdc\x00\xdc\x00", "", api.ErrForm}, {"\x00a\xd8\x00", "", api.ErrForm}, {"\x00a\xdc\x00\x00b", "", api.ErrForm}, {"\xdc\x00\xdc\x00", "", api.ErrForm}, {"\xd8\x00\xdc\x00\x00", "", api.ErrForm},
	} {
		if s, e := cmap.Text(c.in); s != c.want || e != c.e {
			t.Errorf("P18.3: %q: %q, %d, want %q, %d", c.in, s, e, c.want, c.e)
		}
	}
}

// Each number of two bytes, alone and in front of another one, as the library reads it.
func TestTextOfEachUnit(t *testing.T) {
	for n := range 65536 {
		for _, second := range []int{-1, 'x', 0xd800, 0xdbff, 0xdc00, 0xdfff, 0xe000} {
			units := []uint16{uint16(n)}
			in := string([]byte{byte(n / 256), byte(n)})
			if second >= 0 {
				units = append(units, uint16(second))
				in += string([]byte{byte(second / 256), byte(second)})
			}
			want, e := string(utf16.Decode(units)), api.OK
			if !slices.Equal(utf16.Encode([]rune(want)), units) {
				want, e = "", api.ErrForm
			}
			if s, f := cmap.Text(in); s != want || f != e {
				t.Fatalf("P18.3: %q: %q, %d, want %q, %d", in, s, f, want, e)
			}
		}
	}
}

// some returns an ordered list of mappings.
func some(r *rand.Rand, wide bool) []api.Glyph {
	var l []api.Glyph
	step, codes := 3, 256
	if wide {
		step, codes = 200, 65536
	}
	for code := r.Intn(3); code < codes && r.Intn(200) > 0; code += 1 + r.Intn(step) {
		b := make([]byte, 2+2*r.Intn(8))
		r.Read(b)
		l = append(l, glyph(code, string(b)))
	}
	return l
}

func TestPrintedListsAreParsed(t *testing.T) {
	r := rand.New(rand.NewSource(18))
	for i := range 1000 {
		wide := i%2 == 0
		want := some(r, wide)
		s, e := cmap.Print(want, wide)
		l, f := cmap.Parse([]byte(s), wide)
		if !slices.Equal(l, want) || e != api.OK || f != api.OK {
			t.Fatalf("P18.4: %q: %v, %d, %d, want %v", s, l, e, f, want)
		}
	}
	s, _ := cmap.Print(numbered(4096), true)
	if l, e := cmap.Parse([]byte(s), true); !slices.Equal(l, numbered(4096)) || e != api.OK {
		t.Errorf("P18.4: 4096 mappings: %d, %d", len(l), e)
	}
}

// However mappings are told, they are the same.
func TestBlocksOfAllKinds(t *testing.T) {
	r := rand.New(rand.NewSource(181))
	for range 500 {
		want := some(r, false)
		in := ""
		for _, i := range r.Perm(len(want)) {
			g := want[i]
			switch r.Intn(3) {
			case 0:
				in += fmt.Sprintf("1 beginbfchar <%02x> <%x> endbfchar\n", g.Code, g.Text)
			case 1:
				in += fmt.Sprintf("1 beginbfrange <%02x> <%02x> <%x> endbfrange\n", g.Code, g.Code, g.Text)
			default:
				in += fmt.Sprintf("1 beginbfrange <%02x> <%02x> [ <%x> ] endbfrange\n", g.Code, g.Code, g.Text)
			}
		}
		if l, e := cmap.Parse([]byte(in), false); !slices.Equal(l, want) || e != api.OK {
			t.Fatalf("P18.1: %q: %v, %d, want %v", in, l, e, want)
		}
	}
}

func TestArgumentsAreKept(t *testing.T) {
	in := "beginbfrange<42><43><0062>endbfrange beginbfchar(A)(\\000a)endbfchar???"
	b := []byte(in)
	l, e := cmap.Parse(b[:len(b)-3], false)
	if string(b) != in {
		t.Errorf("R2: %q", b)
	}
	clear(b)
	if !slices.Equal(l, example()) || e != api.OK {
		t.Errorf("R2: %v, %d", l, e)
	}
	cmap.Print(l[:2], false)
	if !slices.Equal(l, example()) {
		t.Errorf("R2: %v", l)
	}
}
