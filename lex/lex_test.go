package lex_test

import (
	"math"
	"math/rand"
	"strings"
	"testing"

	"erasure/api"
	"erasure/dec"
	"erasure/lex"
)

func num(m, s int) api.Tok     { return api.Tok{Kind: api.TokNum, Num: api.Dec{M: m, S: s}} }
func name(t string) api.Tok    { return api.Tok{Kind: api.TokName, Text: t} }
func text(t string) api.Tok    { return api.Tok{Kind: api.TokText, Text: t} }
func word(t string) api.Tok    { return api.Tok{Kind: api.TokWord, Text: t} }
func bare(kind int) api.Tok    { return api.Tok{Kind: kind} }
func repeat(n int) string      { return strings.Repeat("x", n) }
func octalWant(n int) api.Tok  { return text(string([]byte{byte(n)})) }
func isZero(t api.Tok) bool    { return t == api.Tok{} }
func shorten(t api.Tok) string { return t.Text[:min(len(t.Text), 80)] }

// good are texts, the first token of each, and how many bytes are left behind it.
func good() []struct {
	in   string
	want api.Tok
	left int
} {
	return []struct {
		in   string
		want api.Tok
		left int
	}{
		{"", bare(api.TokEnd), 0}, {" \x00\t\n\f\r", bare(api.TokEnd), 0}, {"%", bare(api.TokEnd), 0}, {"% no end (", bare(api.TokEnd), 0},
		{"%a\n%b\r\n  %c", bare(api.TokEnd), 0}, {"%a\r1", num(1, 0), 0}, {"%a\n1", num(1, 0), 0}, {"%a\f1\n2", num(2, 0), 0}, {"%%\x00\n2 ", num(2, 0), 1},
		{"[", bare(api.TokList), 0}, {"]", bare(api.TokShut), 0}, {"<<", bare(api.TokDict), 0}, {">>", bare(api.TokClose), 0},
		{" [[", bare(api.TokList), 1}, {"]]", bare(api.TokShut), 1}, {"<<<", bare(api.TokDict), 1}, {">>>", bare(api.TokClose), 1},
		{"<</A>>", bare(api.TokDict), 4}, {">>[", bare(api.TokClose), 1},

		{"0", num(0, 0), 0}, {"12 ", num(12, 0), 1}, {"-12/", num(-12, 0), 1}, {"+1.50]", num(15, 1), 1}, {".5(", num(5, 1), 1}, {"5.%", num(5, 0), 1},
		{"-0", num(0, 0), 0}, {"-.0<", num(0, 0), 1}, {"999999999999999999", num(999999999999999999, 0), 0}, {"-0.000000001", num(-1, 9), 0},
		{"007>", num(7, 0), 1}, {"1)", num(1, 0), 1}, {"1{", num(1, 0), 1}, {"1}", num(1, 0), 1}, {"1\x00", num(1, 0), 1},
		{"0000000000000000000000000000000000000001", num(1, 0), 0},

		{"x", word("x"), 0}, {"obj<<", word("obj"), 2}, {"1a", word("1a"), 0}, {"--1 ", word("--1"), 1}, {"1.2.3", word("1.2.3"), 0}, {".", word("."), 0},
		{"+", word("+"), 0}, {"-", word("-"), 0}, {"1e5", word("1e5"), 0}, {"T*", word("T*"), 0}, {"'", word("'"), 0}, {"\"", word("\""), 0}, {"a#41", word("a#41"), 0},
		{"\\", word("\\"), 0}, {"\x01\x7f\x80\xff\v ", word("\x01\x7f\x80\xff\v"), 1}, {"true[", word("true"), 1}, {"a%b", word("a"), 2}, {"R/", word("R"), 1},
		{"00000000000000000000000000000000000000001", word("00000000000000000000000000000000000000001"), 0},
		{repeat(127), word(repeat(127)), 0}, {repeat(127) + "(", word(repeat(127)), 1}, {strings.Repeat("9", 41), word(strings.Repeat("9", 41)), 0},

		{"/", name(""), 0}, {"/ A", name(""), 2}, {"//A", name(""), 2}, {"/A", name("A"), 0}, {"/A/B", name("A"), 2}, {"/1.5", name("1.5"), 0}, {"/a\x00b", name("a"), 2},
		{"/A#42 ", name("AB"), 1}, {"/#2f#2F", name("//"), 0}, {"/#23#23", name("##"), 0}, {"/#01#ff#fF#Ff", name("\x01\xff\xff\xff"), 0}, {"/#411", name("A1"), 0},
		{"/#20#28", name(" ("), 0}, {"/a\x80\xff\\n", name("a\x80\xff\\n"), 0}, {"/A(B)", name("A"), 3}, {"/A<41>", name("A"), 4}, {"/A%B", name("A"), 2},
		{"/A[", name("A"), 1}, {"/A]", name("A"), 1}, {"/A{", name("A"), 1}, {"/A}", name("A"), 1}, {"/A)", name("A"), 1}, {"/A>", name("A"), 1}, {"/#0a#0A", name("\n\n"), 0},

		{"()", text(""), 0}, {"(a)b", text("a"), 1}, {"(a(b)c)", text("a(b)c"), 0}, {"((()))()", text("(())"), 2}, {"(a\\(b\\51)", text("a(b)"), 0}, {"(a\\)b)", text("a)b"), 0},
		{"(\\n\\r\\t\\b\\f)", text("\n\r\t\b\f"), 0}, {"(\\a\\v\\N\\\\\\/\\8\\9\\x\\ )", text("avN\\/89x "), 0}, {"(\\\\)", text("\\"), 0},
		{"(a\\\nb\\\rc\\\r\nd\\\n\re)", text("abcd\ne"), 0}, {"(a\nb\rc\r\nd\n\re\r\rf)", text("a\nb\nc\nd\n\ne\n\nf"), 0}, {"(%a\n)", text("%a\n"), 0},
		{"(\\1\\12\\123\\1234)", text("\x01\x0a\x53\x534"), 0}, {"(\\18\\128\\1 2)", text("\x018\x0a8\x01 2"), 0}, {"(\\400\\777\\377\\0\\00\\000)", text("\x00\xff\xff\x00\x00\x00"), 0},
		{"(\\0533)", text("+3"), 0}, {"(\\\x00\x00\xff\\\xff)", text("\x00\x00\xff\xff"), 0}, {"([<{/%>}])", text("[<{/%>}]"), 0}, {"(\\\\(a)\\))", text("\\(a))"), 0}, {"(\r)", text("\n"), 0},
		{"(\\\r)", text(""), 0}, {"(\\\n)", text(""), 0}, {"(\\n\n)", text("\n\n"), 0}, {"(#41)", text("#41"), 0},

		{"<>", text(""), 0}, {"<4 1>", text("A"), 0}, {"<4>", text("@"), 0}, {"<41 4>x", text("A@"), 1}, {"< \x00\t\n\f\r4\r1 >", text("A"), 0}, {"<0aF9aA>", text("\x0a\xf9\xaa"), 0},
		{"<1>>", text("\x10"), 1}, {"<0>", text("\x00"), 0}, {"<00 00 1>", text("\x00\x00\x10"), 0}, {"<bcdefBCDEF01>", text("\xbc\xde\xfb\xcd\xef\x01"), 0}, {"<23456789>", text("\x23\x45\x67\x89"), 0},
	}
}

func TestNext(t *testing.T) {
	for _, c := range good() {
		tok, at, e := lex.Next([]byte(c.in), 0)
		if tok != c.want || at != len(c.in)-c.left || e != api.OK {
			t.Errorf("P14.1: %q: %v, %d, %d, want %v with %d left", c.in, tok, at, e, c.want, c.left)
		}
	}
}

func TestNextTellsErrors(t *testing.T) {
	for _, c := range []struct {
		in   string
		want api.Errno
	}{
		{")", api.ErrForm}, {"{", api.ErrForm}, {"}", api.ErrForm}, {">", api.ErrForm}, {"> >", api.ErrForm}, {">a", api.ErrForm}, {" %a\n)", api.ErrForm},
		{"(", api.ErrForm}, {"(a", api.ErrForm}, {"((a)", api.ErrForm}, {"(\\)", api.ErrForm}, {"(\\", api.ErrForm}, {"(\\1", api.ErrForm}, {"(\\\r", api.ErrForm}, {"(\r", api.ErrForm},
		{"(\\\\\\)", api.ErrForm}, {"(a\\051", api.ErrForm}, {"(" + repeat(70000), api.ErrForm},
		{"<", api.ErrForm}, {"<4", api.ErrForm}, {"<41", api.ErrForm}, {"<4g>", api.ErrForm}, {"<41(>", api.ErrForm}, {"<4%1\n>", api.ErrForm}, {"<4<1>", api.ErrForm}, {"<@>", api.ErrForm},
		{"<G>", api.ErrForm}, {"<`>", api.ErrForm}, {"</>", api.ErrForm}, {"<:>", api.ErrForm}, {"<\v>", api.ErrForm}, {"<\x80>", api.ErrForm}, {"<-1>", api.ErrForm}, {"< <41>", api.ErrForm},
		{"<" + strings.Repeat("4", 140000), api.ErrForm}, {"<" + strings.Repeat("4", 140000) + "x>", api.ErrForm},
		{"/#", api.ErrForm}, {"/#4", api.ErrForm}, {"/#4 1", api.ErrForm}, {"/#g1", api.ErrForm}, {"/#1g", api.ErrForm}, {"/##41", api.ErrForm}, {"/#00", api.ErrForm}, {"/A#", api.ErrForm},
		{"/A#4/", api.ErrForm}, {"/A#00B", api.ErrForm}, {"/#4#41", api.ErrForm}, {"/" + repeat(70000) + "#4", api.ErrForm}, {"/" + repeat(70000) + "#00", api.ErrForm}, {"/#4(1", api.ErrForm},
		{"1000000000000000000", api.ErrOver}, {"-1000000000000000000 ", api.ErrOver}, {"0.0000000001", api.ErrOver}, {"9999999999999999999999999999999999999999", api.ErrOver},
		{" %a\n1000000000000000000.5[", api.ErrOver},
		{repeat(128), api.ErrLong}, {repeat(70000), api.ErrLong}, {strings.Repeat("9", 128), api.ErrLong}, {repeat(128) + "(", api.ErrLong},
	} {
		tok, at, e := lex.Next([]byte(c.in), 0)
		if !isZero(tok) || at != 0 || e != c.want {
			t.Errorf("P14.1: %.50q: %v, %d, %d, want %d", c.in, shorten(tok), at, e, c.want)
		}
	}
}

// The limit is one of the content, not of the bytes that stand for it.
func TestNextIsLimited(t *testing.T) {
	full := repeat(api.MaxText)
	for _, c := range []struct {
		in   string
		want string
		e    api.Errno
	}{
		{"/" + full, full, api.OK}, {"/" + full + "x", "", api.ErrLong}, {"/" + strings.Repeat("#78", api.MaxText), full, api.OK}, {"/" + full + "#78", "", api.ErrLong},
		{"(" + full + ")", full, api.OK}, {"(" + full + "x)", "", api.ErrLong}, {"(" + strings.Repeat("\\170", api.MaxText) + ")", full, api.OK},
		{"(" + full + "\\170)", "", api.ErrLong}, {"(" + full + "\\\n)", full, api.OK}, {"(" + full[2:] + "())", full[2:] + "()", api.OK}, {"(" + full[1:] + "())", "", api.ErrLong},
		{"<" + strings.Repeat("7 8", api.MaxText) + ">", full, api.OK}, {"<" + strings.Repeat("78", api.MaxText) + "7>", "", api.ErrLong},
		{"<" + strings.Repeat("78", api.MaxText-1) + "7>", full[1:] + "p", api.OK},
	} {
		tok, at, e := lex.Next([]byte(c.in), 0)
		if tok.Text != c.want || e != c.e || e == api.OK && at != len(c.in) || e != api.OK && (at != 0 || !isZero(tok)) {
			t.Errorf("P14.1: %.40q: %d bytes, %d, %d, want %d bytes, %d", c.in, len(tok.Text), at, e, len(c.want), c.e)
		}
	}
}

func TestNextAt(t *testing.T) {
	in := []byte("12 /A")
	for _, c := range []struct {
		at   int
		want api.Tok
		end  int
		e    api.Errno
	}{
		{0, num(12, 0), 2, api.OK}, {1, num(2, 0), 2, api.OK}, {2, name("A"), 5, api.OK}, {3, name("A"), 5, api.OK}, {4, word("A"), 5, api.OK}, {5, bare(api.TokEnd), 5, api.OK},
		{6, api.Tok{}, 0, api.ErrArg}, {-1, api.Tok{}, 0, api.ErrArg}, {math.MaxInt, api.Tok{}, 0, api.ErrArg}, {math.MinInt, api.Tok{}, 0, api.ErrArg},
	} {
		if tok, end, e := lex.Next(in, c.at); tok != c.want || end != c.end || e != c.e {
			t.Errorf("P14.1: at %d: %v, %d, %d, want %v, %d, %d", c.at, tok, end, e, c.want, c.end, c.e)
		}
	}
	if tok, end, e := lex.Next(nil, 0); !isZero(tok) || end != 0 || e != api.OK {
		t.Errorf("P14.1: nothing: %v, %d, %d", tok, end, e)
	}
	if _, _, e := lex.Next(nil, 1); e != api.ErrArg {
		t.Errorf("P14.1: beyond nothing: %d", e)
	}
	if _, _, e := lex.Next([]byte(")")[:0], 1); e != api.ErrArg {
		t.Errorf("P14.1: in the spare capacity: %d", e)
	}
}

// all returns the tokens of b ahead of the end.
func all(t *testing.T, b []byte) []api.Tok {
	t.Helper()
	var l []api.Tok
	for at := 0; ; {
		tok, next, e := lex.Next(b, at)
		if e != api.OK {
			t.Fatalf("P14.1: %.80q at %d: %d", b, at, e)
		}
		if tok.Kind == api.TokEnd {
			return l
		}
		if next <= at {
			t.Fatalf("P14.3: %.80q: from %d to %d", b, at, next)
		}
		l, at = append(l, tok), next
	}
}

func same(a, b []api.Tok) bool {
	if len(a) != len(b) {
		return false
	}
	for i := range a {
		if a[i] != b[i] {
			return false
		}
	}
	return true
}

func TestExample(t *testing.T) {
	got := all(t, []byte("12 /A#42 (a\\(b\\51) <4 1> [x"))
	if want := []api.Tok{num(12, 0), name("AB"), text("a(b)"), text("A"), bare(api.TokList), word("x")}; !same(got, want) {
		t.Errorf("P14.1: %v", got)
	}
}

// Each byte for itself, each byte behind a slash, and each behind a backslash.
func TestEachByte(t *testing.T) {
	for c := range 256 {
		s := string([]byte{byte(c)})
		space := strings.Contains("\x00\t\n\f\r ", s)
		regular := !space && !strings.Contains("()<>[]{}/%", s)
		tok, at, e := lex.Next([]byte("/"+s), 0)
		switch {
		case s == "#" && e != api.ErrForm, s != "#" && regular && (tok != name(s) || at != 2), !regular && (tok != name("") || at != 1):
			t.Errorf("P14.1: /%q: %v, %d, %d", s, tok, at, e)
		}
		want := text(s)
		if i := strings.Index("nrtbf", s); i >= 0 {
			want = text("\n\r\t\b\f"[i : i+1])
		} else if '0' <= c && c <= '7' {
			want = octalWant(c - '0')
		} else if c == '\n' || c == '\r' {
			want = text("")
		}
		if tok, at, e := lex.Next([]byte("(\\"+s+")"), 0); tok != want || at != 4 || e != api.OK {
			t.Errorf("P14.1: (\\%q): %v, %d, %d", s, tok, at, e)
		}
		tok, at, e = lex.Next([]byte(s+"1"), 0)
		switch {
		case space && (tok != num(1, 0) || at != 2), '0' <= c && c <= '9' && tok != num(10*(c-'0')+1, 0), strings.Contains("){}><", s) && e != api.ErrForm,
			regular && at != 2, s == "x" && tok != word("x1"):
			t.Errorf("P14.1: %q1: %v, %d, %d", s, tok, at, e)
		}
		_, e = lex.Print(word(s))
		if _, number := dec.Parse(s); (e == api.OK) != (regular && number == api.ErrForm) {
			t.Errorf("P14.2: the word %q: %d", s, e)
		}
	}
	for n := range 512 {
		in := "(\\" + string([]byte{byte('0' + n/64), byte('0' + n/8%8), byte('0' + n%8)}) + ")"
		if tok, _, e := lex.Next([]byte(in), 0); tok != octalWant(n) || e != api.OK {
			t.Errorf("P14.1: %s: %v, %d", in, tok, e)
		}
	}
}

func TestPrint(t *testing.T) {
	for _, c := range []struct {
		in   api.Tok
		want string
	}{
		{bare(api.TokEnd), ""}, {bare(api.TokList), "["}, {bare(api.TokShut), "]"}, {bare(api.TokDict), "<<"}, {bare(api.TokClose), ">>"},
		{num(0, 0), "0"}, {num(-5, 1), "-0.5"}, {num(999999999999999999, 9), "999999999.999999999"},
		{name(""), "/"}, {name("AB"), "/AB"}, {name("A B"), "/A#20B"}, {name("#"), "/#23"}, {name("()<>[]{}/%"), "/#28#29#3c#3e#5b#5d#7b#7d#2f#25"},
		{name("\x01\x20!~\x7f\x80\xff"), "/#01#20!~#7f#80#ff"}, {name("\xab\xcd\xef"), "/#ab#cd#ef"}, {name("\"$&'*+,-.019:;=?@AZ\\^_`az|"), "/\"$&'*+,-.019:;=?@AZ\\^_`az|"},
		{text(""), "<>"}, {text("A"), "<41>"}, {text("\x00\x0a\xff()"), "<000aff2829>"}, {text("\x12\x34\x56\x78\x9a\xbc\xde\xf0"), "<123456789abcdef0>"},
		{word("x"), "x"}, {word("obj"), "obj"}, {word("T*"), "T*"}, {word("#"), "#"}, {word("\x80"), "\x80"}, {word("1a"), "1a"}, {word("-"), "-"}, {word(repeat(127)), repeat(127)},
		{word(strings.Repeat("9", 41)), strings.Repeat("9", 41)}, {name(repeat(api.MaxText)), "/" + repeat(api.MaxText)}, {text(repeat(api.MaxText)), "<" + strings.Repeat("78", api.MaxText) + ">"},
	} {
		if s, e := lex.Print(c.in); s != c.want || e != api.OK {
			t.Errorf("P14.2: %d %.40q: %.80q, %d, want %.80q", c.in.Kind, c.in.Text, s, e, c.want)
		}
	}
}

func TestPrintRefuses(t *testing.T) {
	wrong := []api.Tok{
		bare(-1), bare(9), bare(math.MaxInt), bare(math.MinInt), num(10, 1), num(1, 10), num(1, -1), num(1000000000000000000, 0), num(math.MinInt, 0),
		name("\x00"), name("A\x00B"), name(repeat(api.MaxText + 1)), text(repeat(api.MaxText + 1)),
		word(""), word(repeat(128)), word("a b"), word("1"), word("-1.5"), word("."[:0]), word("a\x00"), word("1000000000000000000"), word("0.0000000001"), word("+.5"),
		word("a("), word(")a"), word("a<b"), word("a>"), word("["), word("]"), word("{"), word("}"), word("/a"), word("%a"), word("a\n"), word("\t"),
		{Kind: api.TokNum, Num: api.Dec{M: 1}, Text: "1"},
	}
	for _, k := range []int{api.TokEnd, api.TokList, api.TokShut, api.TokDict, api.TokClose} {
		wrong = append(wrong, api.Tok{Kind: k, Text: "x"})
	}
	for k := api.TokEnd; k <= api.TokClose; k++ {
		if k != api.TokNum {
			wrong = append(wrong, api.Tok{Kind: k, Text: "x", Num: api.Dec{M: 1}}, api.Tok{Kind: k, Num: api.Dec{S: 1}})
		}
	}
	for _, k := range []int{api.TokName, api.TokText, api.TokWord} {
		wrong = append(wrong, api.Tok{Kind: k, Text: "x", Num: api.Dec{S: 1}})
	}
	for _, tok := range wrong {
		if s, e := lex.Print(tok); s != "" || e != api.ErrArg {
			t.Errorf("P14.2: %d %v %.40q: %q, %d", tok.Kind, tok.Num, tok.Text, s, e)
		}
	}
}

// some returns a valid token.
func some(r *rand.Rand) api.Tok {
	b := make([]byte, r.Intn(6))
	for i := range b {
		b[i] = byte(1 + r.Intn(255))
	}
	switch k := r.Intn(9); k {
	case api.TokEnd, api.TokNum:
		d, _ := dec.Make(r.Intn(2000000)-1000000, r.Intn(10))
		return api.Tok{Kind: api.TokNum, Num: d}
	case api.TokName, api.TokText:
		return api.Tok{Kind: k, Text: string(b)}
	case api.TokWord:
		return word([]string{"obj", "R", "n", "true", "--", "1.2.", "\xff", "#", "T*", "'"}[r.Intn(10)])
	default:
		return bare(k)
	}
}

func TestPrintedTokensAreRead(t *testing.T) {
	r := rand.New(rand.NewSource(14))
	behind := []string{" ", "\n", "\x00", "\t", "\f", "\r", "(", ")", "[", "]", "{", "}", "/", "%", "<41>", "> ", "<<", ">>", ""}
	for range 4000 {
		want := some(r)
		s, e := lex.Print(want)
		if e != api.OK {
			t.Fatalf("P14.2: %v: %d", want, e)
		}
		for _, x := range behind {
			got, at, e := lex.Next([]byte("12"+s+x), 2)
			if got != want || at != 2+len(s) || e != api.OK {
				t.Fatalf("P14.3: %v, printed as %q and followed by %q: %v, %d, %d", want, s, x, got, at, e)
			}
		}
	}
}

func TestGapsMakeNoDifference(t *testing.T) {
	r := rand.New(rand.NewSource(141))
	gaps := []string{" ", "\n", "\r\n", "\t\f\x00", "%\n", "%a (<[\r", " %% %\r\n ", "  \n\n %x\n%y\n"}
	for range 300 {
		var want []api.Tok
		in := ""
		for range r.Intn(12) {
			tok := some(r)
			s, _ := lex.Print(tok)
			want = append(want, tok)
			in += s
			for range 1 + r.Intn(3) {
				in += gaps[r.Intn(len(gaps))]
			}
		}
		if got := all(t, []byte(in)); !same(got, want) {
			t.Fatalf("P14.3: %q: %v, want %v", in, got, want)
		}
	}
}

func TestArgumentsAreKept(t *testing.T) {
	in := "(a\\n)<4 1>/A#42 12 x)))"
	b := []byte(in)
	for at := range len(b) {
		lex.Next(b[:len(b)-3], at)
	}
	tok, _, _ := lex.Next(b, 0)
	if string(b) != in {
		t.Errorf("R2: %q", b)
	}
	clear(b)
	if tok != text("a\n") {
		t.Errorf("R2: a token changes with the bytes: %v", tok)
	}
}
