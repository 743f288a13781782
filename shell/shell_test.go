package shell_test

import (
	"math/rand"
	"strconv"
	"strings"
	"testing"

	"erasure/api"
	"erasure/ops"
	"erasure/save"
	"erasure/session"
	"erasure/shell"
	"erasure/view"
	"erasure/zlib"
)

func run(t *testing.T, script string) string {
	t.Helper()
	out, e := shell.Run(script)
	if e != api.OK {
		t.Fatalf("P27.1: %.200q: %d", script, e)
	}
	return out
}

// check runs a script of lines, each with its output behind an arrow; lines without an arrow have none.
func check(t *testing.T, lines string) {
	t.Helper()
	script, want := "", ""
	for _, line := range strings.Split(strings.Trim(lines, "\n"), "\n") {
		in, out, found := strings.Cut(line, " => ")
		script += in + "\n"
		if found {
			want += out + "\n"
		}
	}
	if got := run(t, script); got != want {
		t.Errorf("P27.1:\n%s\ntold\n%s\nwant\n%s", script, got, want)
	}
}

func TestExample(t *testing.T) {
	got := run(t, "text 0\npage 0 0 9 9\nglyph 65 500 A\ndraw BT /F 1 Tf (A) Tj ET\nopen\ntext 0\nfind A\nleft 0")
	if want := "line 1: what?\n0\nok\n1\nok\nA\n1\n0\n"; got != want {
		t.Errorf("P27.1: %q, want %q", got, want)
	}
}

func TestRun(t *testing.T) {
	check(t, `
# two pages

   # a comment behind blanks
page 0 0 99.5 99 => 0
glyph 65 500 A => ok
glyph 66 1000 bc => ok
draw BT /F 10 Tf (AB) Tj ET => 2
draw 50 50 5 5 re f => 3
draw => 3
draw  => 3
draw    q Q   => 3
draw % nothing => 3
page -1 -1 2 +.5 => 1
draw 1 1 m 2 2 l S => 1
open => ok
text 0 => Abc
text 1 => -
left 0 => 3
left 1 => 1
find Ab => 1
left 0 => 1
mark 1 2 2 3 3 => ok
left 1 => 0
mark 0 50 50 50 50 => ok
left 0 => 0
unmark 0 => ok
left 0 => 2
covers on => ok
left 0 => 3
left 1 => 1
covers off => ok
left 0 => 2
unmark 1 => ok
left 0 => 3
left 1 => 0
find x => 0
find b => 1
find bc => 1
`)
}

func TestWordsThatAreWrong(t *testing.T) {
	before := []string{
		"x", "Page 0 0 1 1", "PAGE 0 0 1 1", "page", "page 0 0 1", "page 0 0 1 1 1", "page 0 0 1 a", "page 0 0 1 --1", "page 0 0 1 1e5", "page 0 0 1 .", "page 0 0 1 1000000000000000000", "page 0 0 1 0.0000000001", "page 0 0 1 1\t", "page\t0 0 1 1", "page 0,0 1 1", "pages 0 0 1 1", "page0 0 1 1", "page 0 0 1 " + strings.Repeat("0", 41),
		"glyph", "glyph 65", "glyph 65 500", "glyph 65 500 A B", "glyph -1 500 A", "glyph +1 500 A", "glyph 65 1.5 A", "glyph 65 500. A", "glyph 1234567890 500 A", "glyph 65 0000000001 A", "glyph A 500 A", "glyph 0x41 500 A", "glyph 65 -0 A", "glyph 6_5 500 A", "glyph 65 \xd9\xa1 A", "glyph 65: 1 A", "glyph 65/ 1 A",
		"drawq", "draw\tq", "open now", "open 0", "openn", "opens", "mark 0 0 0 1 1", "find A", "unmark 0", "covers on", "text 0", "left 0", "save", "\x00", "\xff", "page 0 0 1 1 #", "\tpage 0 0 1 1", "\r",
	}
	for i, line := range before {
		want := "line 2: what?\n"
		if got := run(t, "page 0 0 9 9\n"+line+"\n"); got != "0\n"+want {
			t.Errorf("P27.1: %d: %q: %q", i, line, got)
		}
	}
	for _, line := range []string{"glyph 65 500 A", "draw", "draw q", "draw 1 1 m S", "glyph 65 500"} {
		if got := run(t, line); got != "line 1: what?\n" {
			t.Errorf("P27.1: %q without a page: %q", line, got)
		}
	}
	after := []string{
		"page 0 0 1 1", "glyph 65 500 A", "draw", "draw q Q", "open", "page", "x", "mark", "mark 0", "mark 0 0 0 1", "mark 0 0 0 1 1 1", "mark 0.0 0 0 1 1", "mark -1 0 0 1 1", "mark 0 0 0 1 a", "mark 0 0 0 1 1000000000000000000", "mark 1234567890 0 0 1 1", "mark 0 0 0 1 0.0000000001",
		"find", "find A B", "find  ", "unmark", "unmark a", "unmark 0 0", "unmark -1", "unmark 0000000000", "covers", "covers On", "covers on off", "covers 1", "covers off on", "text", "text a", "text 0 0", "text -1", "left", "left 0 0", "left x", "left 1", "left 999999999", "save 0", "save x", "saves", "Save",
	}
	for i, line := range after {
		if got := run(t, "page 0 0 9 9\nopen\n"+line+"\nleft 0\n"); got != "0\nok\nline 3: what?\n0\n" {
			t.Errorf("P27.1: %d: %q: %q", i, line, got)
		}
	}
}

func TestForms(t *testing.T) {
	for line, want := range map[string]string{
		"  page   0 0  9 9  ": "1", "page -0 +0 9. .9": "1", "page 000 0 00009 9": "1", "page 9 9 0 0": "1", "page -999999999999999999 0.000000001 999999999999999999 1": "1", "glyph 000000065 000000500 A": "ok", "glyph 999999999 999999999 A": "ok", "glyph 0 0 %#/(": "ok", "   draw 1 1 m S": "1", " open": "ok", "open  ": "ok", "glyph 65 500 \xff\x00\t": "ok", "glyph 65 500 #": "ok",
		"draw  1 1 m S": "1", "draw 1 1 m S  ": "1", "draw": "0", "draw ": "0", "draw #": "error 9", "draw (": "error 4", "draw /G 1 Tf": "error 8", "draw Q": "error 4", "draw x": "error 9", "draw BT": "error 4", "draw 1": "error 4", "draw 999999999999999999 0 1 1 re f": "error 5", "draw 1000000000000000000 w": "error 5", "draw BI ID x EI": "1", "draw BI ID x EI ": "1", "draw /X Do": "1", "draw " + strings.Repeat("q ", 33): "error 10",
	} {
		if got := run(t, "page 0 0 9 9\n"+line); got != "0\n"+want+"\n" {
			t.Errorf("P27.1: %q: %q, want %q", line, got, want)
		}
	}
	for line, want := range map[string]string{
		" mark  0 -1 0.5 +1 .5 ": "ok", "mark 00 0 0 0 0": "ok", "mark 000000000 0 0 1 1": "ok", "mark 1 0 0 1 1": "error 1", "mark 999999999 0 0 1 1": "error 1", "mark 0 1 0 0 0": "error 1", "find A": "2", "find AA": "1", "find B": "0", "find #": "0", "  find  A  ": "2", "unmark 0": "error 1", "unmark 999999999": "error 1", "covers on": "ok", "covers off": "ok", " covers  on ": "ok", "text 0": "AA", "text 000000000": "AA", "text 1": "error 1", "text 999999999": "error 1", "left 0": "2", "left 00": "2",
	} {
		if got := run(t, "page 0 0 9 9\nglyph 65 500 A\ndraw BT /F 1 Tf (AA) Tj ET\nopen\n"+line); got != "0\nok\n2\nok\n"+want+"\n" {
			t.Errorf("P27.1: %q: %q, want %q", line, got, want)
		}
	}
}

func TestLines(t *testing.T) {
	for script, want := range map[string]string{
		"": "", "\n": "", "\n\n\n": "", "   ": "", "  \n #\n#x\n   #page 0 0 1 1\n": "", "#": "", "page 0 0 1 1": "0\n", "page 0 0 1 1\n": "0\n", "page 0 0 1 1\n\n": "0\n", "\n\npage 0 0 1 1\n\nx\n": "0\nline 5: what?\n", "x": "line 1: what?\n", "x\nx\n#\nx": "line 1: what?\nline 2: what?\nline 4: what?\n", "page 0 0 1 1\r\nopen\r\n": "line 1: what?\nline 2: what?\n", "x # y": "line 1: what?\n", "\x00": "line 1: what?\n",
	} {
		if got := run(t, script); got != want {
			t.Errorf("P27.1: %q: %q, want %q", script, got, want)
		}
	}
}

func TestScriptsAreLimited(t *testing.T) {
	for _, c := range []struct {
		script string
		want   string
		e      api.Errno
	}{
		{strings.Repeat("\n", 65536), "", api.OK}, {strings.Repeat("\n", 65537), "", api.ErrLong}, {strings.Repeat("x", 65536), "line 1: what?\n", api.OK}, {strings.Repeat("x", 65537), "", api.ErrLong}, {strings.Repeat(" ", 65535) + "x", "line 1: what?\n", api.OK}, {"page 0 0 1 1" + strings.Repeat("\n", 65525), "", api.ErrLong}, {"page 0 0 1 1" + strings.Repeat("\n", 65524), "0\n", api.OK},
	} {
		if out, e := shell.Run(c.script); out != c.want || e != c.e {
			t.Errorf("P27.1: %d bytes: %q, %d, want %q, %d", len(c.script), out, e, c.want, c.e)
		}
	}
}

func TestGlyphs(t *testing.T) {
	check(t, `
page 0 0 9 9 => 0
glyph 66 1000 B => ok
glyph 65 500 A => ok
glyph 67 250 xyz => ok
glyph 66 2000 b => ok
draw BT /F 1 Tf (ABCD) Tj ET => 4
draw BT /F 1 Tf (AA) Tj ET => 6
open => ok
text 0 => AbxyzAA
mark 0 1 0 1 0 => ok
left 0 => 4
find bx => 1
left 0 => 0
`)
	// Glyphs that a font may not have, until they are replaced; and marks of a font that was another one.
	check(t, `
page 0 0 9 9 => 0
glyph 256 500 A => ok
draw => error 1
page 0 0 9 9 => 1
glyph 65 10001 A => ok
draw => error 1
glyph 65 10000 A => ok
draw BT /F 1 Tf (A) Tj ET => 1
glyph 66 1 123456789 => ok
draw => error 1
glyph 66 1 12345678 => ok
draw => 1
open => error 1
page 0 0 9 9 => 2
text 0 => line 15: what?
`)
	check(t, `
page 0 0 9 9 => 0
glyph 65 500 A => ok
draw BT /F 1 Tf (A) Tj ET => 1
glyph 65 600 A => ok
open => error 1
glyph 65 500 B => ok
open => ok
text 0 => B
page 0 0 9 9 => line 9: what?
`)
}

func TestErrors(t *testing.T) {
	check(t, `
open => ok
left 0 => line 2: what?
text 0 => error 1
mark 0 0 0 1 1 => error 1
find A => 0
open => line 6: what?
`)
	check(t, `
page 9 9 0 0 => 0
draw 1 1 m S => 1
open => error 1
draw 1 1 m S => 2
save => line 5: what?
`)
	check(t, `
page 0 0 9 9 => 0
draw /X Do => 1
open => error 1
`)
	// A call that fails changes nothing.
	check(t, `
page 0 0 9 9 => 0
draw 1 1 m S => 1
draw 1 1 m S x => error 9
draw 1 1 m S ( => error 4
draw => 1
open => ok
mark 0 -500000000000000000 5 500000000000000000 5 => ok
left 0 => 1
covers on => ok
left 0 => error 5
left 7 => error 5
save => error 5
covers x => line 13: what?
left 0 => error 5
covers off => ok
left 0 => 1
left 7 => line 17: what?
unmark 0 => ok
unmark 0 => error 1
`)
	many := strings.Repeat("page 0 0 1 1\n", 257)
	if out := run(t, many+"open\n"); !strings.HasSuffix(out, "\n256\nerror 2\n") {
		t.Errorf("P27.1: 257 pages: %q", out[len(out)-20:])
	}
	if out := run(t, many[:len(many)/257*256]+"open\nleft 255\nleft 256\n"); !strings.HasSuffix(out, "\n255\nok\n0\nline 259: what?\n") {
		t.Errorf("P27.1: 256 pages: %q", out[len(out)-40:])
	}
	marks := "page 0 0 9 9\nglyph 65 500 A\ndraw BT /F 1 Tf (" + strings.Repeat("A", 65) + ") Tj ET\nopen\nfind A\nmark 0 0 0 1 1\nfind A\n"
	if out := run(t, marks+strings.Repeat("mark 0 0 0 1 1\n", 64)+"unmark 63\nmark 0 0 0 1 1\nmark 5 0 0 1 1\n"); out != "0\nok\n65\nok\nerror 2\nok\nerror 2\n"+strings.Repeat("ok\n", 63)+"error 2\nok\nok\nerror 2\n" {
		t.Errorf("P27.1: 65 regions: %q", out)
	}
}

func TestEscapes(t *testing.T) {
	for in, want := range map[string]string{"A": "A", "%": "%25", "!~": "!~", "a%b": "a%25b", "\x7f": "%7f", "\xe9": "%c3%a9", "\x01\t": "%01%09", "\"'\\": "\"'\\", "#": "#", "-": "-", "0aF": "0aF"} {
		got := run(t, "page 0 0 9 9\nglyph 65 500 "+in+"\ndraw BT /F 1 Tf (A) Tj ET\nopen\ntext 0\n")
		if got != "0\nok\n1\nok\n"+want+"\n" {
			t.Errorf("P27.1: the text %q: %q, want %q", in, got, want)
		}
	}
	// Text that is none: half a pair can't be written, but spoken of.
	got := run(t, "page 0 0 9 9\ndraw BT /F 1 Tf (A) Tj ET\nopen\ntext 0\nfind A\n")
	if got != "0\n1\nok\n-\n0\n" {
		t.Errorf("P27.1: %q", got)
	}
}

// The calls of the other layers, made by hand.
func TestSave(t *testing.T) {
	p := api.Page{Box: api.Box{X1: api.Dec{M: 9}, Y1: api.Dec{M: 9}}, Fonts: []api.Named{{Name: "F", Font: api.Font{Glyphs: []api.Glyph{{Code: 65, Width: 500, Text: "\x00A"}, {Code: 66, Width: 600, Text: "\x00B\x00b"}}}}}}
	l, _ := ops.Parse([]byte("BT /F 2 Tf (ABA) Tj ET 5 5 1 1 re f"))
	p.Marks, _ = view.See(l, p.Fonts)
	b, e := save.Save([]api.Page{p})
	if e != api.OK {
		t.Fatal(e)
	}
	s, e := session.Open(b)
	if e != api.OK {
		t.Fatal(e)
	}
	told := func(covers bool) string {
		b, e := s.Save(covers)
		if e != api.OK {
			t.Fatal(e)
		}
		return strconv.Itoa(zlib.Sum(b)) + " " + strconv.Itoa(len(b)) + "\n"
	}
	want := "0\nok\nok\n4\nok\n" + told(false)
	s.MarkText("Bb")
	want += "1\n" + told(false) + "ok\n" + told(true)
	s.Mark(api.Region{Box: api.Box{X0: api.Dec{M: 5}, Y0: api.Dec{M: 5}, X1: api.Dec{M: 55, S: 1}, Y1: api.Dec{M: 6}}})
	want += "ok\n" + told(true) + "ok\n" + told(false)
	if got := run(t, "page 0 0 9 9\nglyph 66 600 Bb\nglyph 65 500 A\ndraw BT /F 2 Tf (ABA) Tj ET 5 5 1 1 re f\nopen\nsave\nfind Bb\nsave\ncovers on\nsave\nmark 0 5 5 5.5 6\nsave\ncovers off\nsave\n"); got != want {
		t.Errorf("P27.1: %q, want %q", got, want)
	}
}

// someLine returns a line, right or wrong.
func someLine(r *rand.Rand) string {
	n := func() string { return strconv.Itoa(r.Intn(3)) }
	s := []string{"page 0 0 9 9", "page 0 0 9", "glyph 65 500 A", "glyph 66 " + n() + "00 b", "draw BT /F 1 Tf (AB) Tj ET", "draw 1 1 m S", "draw", "draw x", "open", "open", "mark " + n() + " 0 0 1 1", "mark 0 " + n() + " 0 0 0", "find A", "find Ab", "unmark " + n(), "covers on", "covers off", "text " + n(), "left " + n(), "save", "", "# x", "x", "  ", "page 1 1 0 0"}[r.Intn(25)]
	if r.Intn(12) == 0 {
		return s + " " + n()
	}
	return strings.Repeat(" ", r.Intn(2)) + s
}

// The output of the first lines is the beginning of the output of all lines.
func TestFirstLines(t *testing.T) {
	r := rand.New(rand.NewSource(27))
	for range 400 {
		script, outs := "", []string{""}
		if r.Intn(2) == 0 {
			script = "page 0 0 9 9\nglyph 65 500 A\nglyph 66 100 b\n"
		}
		for range r.Intn(15) {
			script += someLine(r) + "\n"
			outs = append(outs, run(t, script))
			if got := run(t, strings.TrimSuffix(script, "\n")); got != outs[len(outs)-1] {
				t.Fatalf("P27.1: %q without its last end: %q, want %q", script, got, outs[len(outs)-1])
			}
		}
		for _, out := range outs {
			if whole := outs[len(outs)-1]; !strings.HasPrefix(whole, out) || out != "" && !strings.HasSuffix(out, "\n") {
				t.Fatalf("P27.2: %q: %q is not the beginning of %q", script, out, whole)
			}
		}
	}
}

// Whatever the bytes are, there is an answer.
func TestAnyBytes(t *testing.T) {
	r := rand.New(rand.NewSource(271))
	for range 2000 {
		b := []byte("page 0 0 9 9\nglyph 65 500 A\ndraw BT /F 1 Tf (A) Tj ET\nopen\nfind A\nleft 0\nsave\n")
		for range r.Intn(6) {
			b[r.Intn(len(b))] = byte(r.Intn(256))
		}
		out := run(t, string(b))
		if strings.Count(out, "\n") > strings.Count(string(b), "\n")+1 {
			t.Fatalf("P27.1: %q: %q", b, out)
		}
	}
}
