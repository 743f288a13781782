package file_test

import (
	"math"
	"slices"
	"strconv"
	"strings"
	"testing"

	"erasure/api"
	"erasure/file"
)

const over = "1000000000000000000"

func TestExample(t *testing.T) {
	f := open(t, []byte("%PDF-1.4\n1 0 obj 7 endobj\nxref\n1 1\n0000000009 00000 n \ntrailer\n<<>>\nstartxref\n26\n"))
	if l := f.Ids(); !slices.Equal(l, []int{1}) {
		t.Errorf("P17.1: %v", l)
	}
	checkGet(t, f, 1, "7")
	checkGetError(t, "no entry", f, 2, api.ErrNone)
}

func TestNil(t *testing.T) {
	var f *file.File
	if o := f.Trailer(); o.Kind != api.ObjNull || f.Ids() != nil {
		t.Errorf("P17.1: %v, %v", o, f.Ids())
	}
	if x, e := f.Get(1); !isEmpty(x) || e != api.ErrNil {
		t.Errorf("P17.1: Get: %v, %d", x, e)
	}
	for _, o := range []api.Obj{{}, {Kind: api.ObjRef, Ref: 1}} {
		if o, e := f.Resolve(o); o.Kind != api.ObjNull || e != api.ErrNil {
			t.Errorf("P17.1: Resolve: %v, %d", o, e)
		}
	}
	for _, most := range []int{0, -1} {
		if b, e := f.Data(api.Item{}, most); b != nil || e != api.ErrNil {
			t.Errorf("P17.1: Data: %v, %d", b, e)
		}
	}
}

func TestOpenTellsErrors(t *testing.T) {
	const start = "%PDF-1.4 xref trailer <<>> startxref "
	with := func(trailer string) string { return "%PDF- xref trailer " + trailer + " startxref 5" }
	for _, c := range []struct {
		in   string
		want api.Errno
	}{
		{"", api.ErrForm}, {"%PDF-", api.ErrForm}, {"%PDF-1.4\nxref trailer <<>>", api.ErrForm}, {"startxref", api.ErrForm}, {"xref trailer <<>> startxref 0", api.ErrForm},
		{" %PDF-1.4 xref trailer <<>> startxref 10", api.ErrForm}, {"%pdf-1.4 xref trailer <<>> startxref 9", api.ErrForm}, {"%PDF 1.4 xref trailer <<>> startxref 9", api.ErrForm}, {"%PDF- xref trailer <<>> Startxref 5", api.ErrForm},
		{"%PDF- xref trailer <<>> startxre", api.ErrForm},
		// The offset.
		{start, api.ErrForm}, {start + "-1", api.ErrForm}, {start + "9.5", api.ErrForm}, {start + "x", api.ErrForm}, {start + "/9", api.ErrForm}, {start + "(9)", api.ErrForm}, {start + "[9", api.ErrForm}, {start + ")", api.ErrForm},
		{start + over, api.ErrOver}, {start + strings.Repeat("x", 128), api.ErrLong}, {start + "(", api.ErrForm}, {"%PDF-1.4 xref trailer <<>> startxrefx9", api.ErrForm}, {start + "9 startxref", api.ErrForm},
		// The tables.
		{start + "999", api.ErrArg}, {start + "999999999999999999", api.ErrArg}, {start + "0", api.ErrForm}, {start + "10", api.ErrForm}, {start + "14", api.ErrForm},
		{"%PDF- xref 0 1 trailer <<>> startxref 5", api.ErrForm}, {"%PDF- xref " + over + " startxref 5", api.ErrOver}, {"%PDF- xref trailer [] startxref 5", api.ErrForm}, {"%PDF- xref trailer startxref 5", api.ErrForm},
		{"%PDF- xref trailer " + strings.Repeat("[", 33) + " startxref 5", api.ErrDeep}, {"%PDF- xref trailer << startxref 5", api.ErrForm}, {"%PDF- startxref 1 xref trailer", api.ErrForm}, {"%PDF- startxref 19 xref trailer <<", api.ErrNone},
		// The trailer.
		{with("<</Encrypt 1 0 R>>"), api.ErrKind}, {with("<</Encrypt null>>"), api.ErrKind}, {with("<</XRefStm 1>>"), api.ErrForm}, {with("<</XRefStm null>>"), api.ErrForm}, {with("<</Encrypt 1/XRefStm 1/Prev/x>>"), api.ErrKind},
		{with("<</Prev -1>>"), api.ErrForm}, {with("<</Prev 0.5>>"), api.ErrForm}, {with("<</Prev null>>"), api.ErrForm}, {with("<</Prev/x>>"), api.ErrForm}, {with("<</Prev 1 0 R>>"), api.ErrForm}, {with("<</Prev(6)>>"), api.ErrForm},
		{with("<</Prev 5>>"), api.ErrForm}, {with("<</Prev 999>>"), api.ErrArg}, {with("<</Prev 999/Encrypt 1>>"), api.ErrKind}, {with("<</Prev 999/XRefStm 1>>"), api.ErrForm}, {with("<</Prev 7>>"), api.ErrForm},
	} {
		if f, e := file.Open([]byte(c.in)); f != nil || e != c.want {
			t.Errorf("P17.1: %.90q: %d, want %d", c.in, e, c.want)
		}
	}
}

func TestOpenIsLimited(t *testing.T) {
	whole := "%PDF- xref trailer <<>> startxref 5"
	for _, c := range []struct {
		in   string
		want api.Errno
	}{
		{whole + strings.Repeat(" ", api.MaxFile-len(whole)), api.OK}, {whole + strings.Repeat(" ", api.MaxFile-len(whole)+1), api.ErrLong},
		{strings.Repeat("x", api.MaxFile+1), api.ErrLong}, {strings.Repeat("x", api.MaxFile), api.ErrForm},
	} {
		if f, e := file.Open([]byte(c.in)); (f != nil) != (c.want == api.OK) || e != c.want {
			t.Errorf("P17.1: %d bytes: %d, want %d", len(c.in), e, c.want)
		}
	}
}

func TestOpen(t *testing.T) {
	for _, in := range []string{
		"%PDF- xref trailer <</A 1>> startxref 5", "%PDF- xref trailer <</A 1>> startxref 6", "%PDF- xref trailer <</A 1>> startxref5.0 x", "%PDF- xref trailer <</A 1>>startxref%\n+5",
		"%PDF- xref trailer <</A 1>> startxref x startxref 5)", "%PDF- startxref 19 xref trailer <</A 1>>", "%PDF-startxref[startxref 28 xref trailer <</A 1>>", "%PDF- xref trailer <</A 1>> xstartxref 5",
	} {
		f := open(t, []byte(in))
		if s := printed(f.Trailer()); s != "<< /A 1 >>" || len(f.Ids()) != 0 {
			t.Errorf("P17.1: %q: %s, %v", in, s, f.Ids())
		}
		checkGetError(t, in, f, 0, api.ErrNone)
	}
}

func TestNewerTables(t *testing.T) {
	w := begin().object(1, "/one").object(2, "/two").object(3, "/three").free(0).object(9, "/nine")
	oldest := w.table("<</Size 1/Root 9 0 R>>")
	w.object(2, "/newer").free(3).object(4, "/four")
	middle := w.table("<</Size 2/Prev " + strconv.Itoa(oldest) + ">>")
	w.object(4, "/newest").free(9).object(8388607, "/last")
	f := open(t, w.file("<</Size 3/Prev "+strconv.Itoa(middle)+"/XRef 1>>"))
	if s := printed(f.Trailer()); s != "<< /Prev "+strconv.Itoa(middle)+" /Size 3 /XRef 1 >>" {
		t.Errorf("P17.1: %s", s)
	}
	if l := f.Ids(); !slices.Equal(l, []int{1, 2, 4, 8388607}) {
		t.Errorf("P17.1: %v", l)
	}
	for id, want := range map[int]string{1: "/one", 2: "/newer", 4: "/newest", 8388607: "/last"} {
		checkGet(t, f, id, want)
	}
	for _, id := range []int{0, 3, 9, 5, -1, 8388608, math.MaxInt, math.MinInt} {
		checkGetError(t, strconv.Itoa(id), f, id, api.ErrNone)
	}
}

// tables returns a file of n tables, of which the oldest has the trailer.
func tables(n int, trailer string) []byte {
	w := begin()
	for range n {
		at := w.table(trailer)
		trailer = "<</Prev " + strconv.Itoa(at) + ">>"
		if n--; n == 0 {
			return w.end(at)
		}
	}
	return nil
}

func TestManyTables(t *testing.T) {
	open(t, tables(64, "<<>>"))
	for _, c := range []struct {
		name string
		b    []byte
		want api.Errno
	}{
		{"65 tables", tables(65, "<<>>"), api.ErrLong},
		{"66 tables", tables(66, "<<>>"), api.ErrLong},
		{"64 tables and one that is none", tables(64, "<</Prev 0>>"), api.ErrLong},
		{"64 tables and one beyond the end", tables(64, "<</Prev 99999999>>"), api.ErrLong},
		{"63 tables and one beyond the end", tables(63, "<</Prev 99999999>>"), api.ErrArg},
		{"64 tables, the last is encrypted", tables(64, "<</Encrypt 1>>"), api.ErrKind},
		{"65 tables, the last is encrypted", tables(65, "<</Encrypt 1>>"), api.ErrLong},
		{"an error in the oldest", tables(3, "<</Prev/x>>"), api.ErrForm},
		{"hybrid in the oldest", tables(3, "<</XRefStm 1>>"), api.ErrForm},
	} {
		if f, e := file.Open(c.b); f != nil || e != c.want {
			t.Errorf("P17.1: %s: %d, want %d", c.name, e, c.want)
		}
	}
	// A table that was read before comes ahead of too many of them.
	b := string(tables(64, "<</Prev 99999>>"))
	i := strings.LastIndex(b, "startxref\n")
	newest := strings.TrimSuffix(b[i+len("startxref\n"):], "\n%%EOF\n")
	b = strings.Replace(b, "99999", strings.Repeat("0", 5-len(newest))+newest, 1)
	if f, e := file.Open([]byte(b)); f != nil || e != api.ErrForm {
		t.Errorf("P17.1: back to the newest of 64: %d", e)
	}
	w := begin().object(1, "/x")
	first := len(w.b)
	w.table("<</Prev " + strconv.Itoa(len(w.b)+200) + ">>")
	w.text(strings.Repeat(" ", first+200-len(w.b)))
	if f, e := file.Open(w.end(w.table("<</Prev " + strconv.Itoa(first) + ">>"))); f != nil || e != api.ErrForm {
		t.Errorf("P17.1: two tables in a circle: %d", e)
	}
}

// The same table at two offsets, ahead of white space and behind it, was not read before.
func TestOffsetsOfOneTable(t *testing.T) {
	f, e := file.Open([]byte("%PDF-  xref trailer <</Prev 6>> startxref 5"))
	if f != nil || e != api.ErrForm {
		t.Errorf("P17.1: %d", e)
	}
	open(t, []byte("%PDF-\nxref 1 1 0 0 f trailer <</Prev 45>>      xref 1 1 0 0 n trailer <<>> startxref 5"))
}

func TestGet(t *testing.T) {
	w := begin().object(1, "<</A[1 0 R]>>").object(2, "1 0 R").object(3, "null")
	w.at(4).text("4 0 obj/x endobj").at(5).text(" %c\n5.0 -0 obj%\n(y)%\nendobj)").at(0).text("0 0 obj[]endobj ")
	w.text("junk").at(6).text("6 0 obj 1 endobj[").at(7).text("7 0 obj 1 0 endobj").at(8).text("8 0 obj <<>>endobj stream")
	w.at(8388607).text("8388607 0 obj true endobj ")
	f := open(t, w.file("<<>>"))
	for id, want := range map[int]string{1: "<< /A [ 1 0 R ] >>", 2: "1 0 R", 3: "null", 4: "/x", 5: "<79>", 0: "[ ]", 6: "1", 8: "<< >>", 8388607: "true"} {
		checkGet(t, f, id, want)
	}
	checkGetError(t, "two numbers", f, 7, api.ErrForm)
	if l := f.Ids(); !slices.Equal(l, []int{0, 1, 2, 3, 4, 5, 6, 7, 8, 8388607}) {
		t.Errorf("P17.1: %v", l)
	}
}

func TestGetTellsErrors(t *testing.T) {
	long := strings.Repeat("x", 128)
	for _, c := range []struct {
		in   string
		want api.Errno
	}{
		{"8 0 obj 1 endobj", api.ErrForm}, {"7 1 obj 1 endobj", api.ErrForm}, {"7 0 obx 1 endobj", api.ErrForm}, {"/7 0 obj 1 endobj", api.ErrForm}, {"7 /0 obj 1 endobj", api.ErrForm}, {"7 0 /obj 1 endobj", api.ErrForm},
		{"70 obj 1 endobj", api.ErrForm}, {"7 0obj 1 endobj", api.ErrForm}, {"-7 0 obj 1 endobj", api.ErrForm}, {"7.5 0 obj 1 endobj", api.ErrForm}, {"(7) 0 obj 1 endobj", api.ErrForm}, {"obj 7 0 1 endobj", api.ErrForm}, {"7 0 R", api.ErrForm},
		{over, api.ErrOver}, {"7 " + over, api.ErrOver}, {"7 0 " + long, api.ErrLong}, {"7 0 obj " + over, api.ErrOver}, {"7 0 obj 1 " + long, api.ErrLong}, {"8 " + over, api.ErrForm}, {"7 1 " + long, api.ErrForm}, {"7 0 x " + over, api.ErrForm},
		{")", api.ErrForm}, {"7 )", api.ErrForm}, {"7 0 )", api.ErrForm}, {"7 0 obj )", api.ErrForm}, {"7 0 obj 1 )", api.ErrForm},
		{"7 0 obj endobj", api.ErrForm}, {"7 0 obj ] endobj", api.ErrForm}, {"7 0 obj 1 1 R endobj", api.ErrForm}, {"7 0 obj " + strings.Repeat("[", 33), api.ErrDeep}, {"7 0 obj <</A 1/A 1>> endobj", api.ErrForm},
		{"7 0 obj 1 endobjx", api.ErrForm}, {"7 0 obj 1 Endobj", api.ErrForm}, {"7 0 obj 1 /endobj", api.ErrForm}, {"7 0 obj 1 (endobj)", api.ErrForm}, {"7 0 obj 1 2 endobj", api.ErrForm}, {"7 0 obj 1", api.ErrForm},
		{"7 0 obj 1 stream\nendstream endobj", api.ErrForm}, {"7 0 obj [] stream\nendstream endobj", api.ErrForm}, {"7 0 obj null stream\nendstream endobj", api.ErrForm}, {"7 0 obj <<>> endstream", api.ErrForm},
		{"7 0 obj <<>> /stream\nendstream endobj", api.ErrForm}, {"7 0 obj <<>> streamx\nendstream endobj", api.ErrForm},
	} {
		w := begin()
		w.at(7).text(c.in + " ")
		checkGetError(t, c.in, open(t, w.file("<<>>")), 7, c.want)
	}
	for _, c := range []struct {
		in   string
		at   int
		want api.Errno
	}{
		{"7 0 obj 1 endobj", 1000, api.ErrArg}, {"7 0 obj 1 endobj", 9999999999, api.ErrArg}, {"7", 0, api.ErrForm}, {"7 0", 0, api.ErrForm}, {"7 0 obj", 0, api.ErrNone}, {"7 0 obj [1", 0, api.ErrNone}, {"7 0 obj 1", 0, api.ErrForm},
		{"7 0 obj <</Length 1>>stream", 0, api.ErrForm}, {"", 0, api.ErrForm}, {"7 0 obj <</Length 1>>stream\r", 0, api.ErrForm}, {"7 0 obj <</Length 1>>stream\n", 0, api.ErrMore}, {"7 0 obj <</Length 0>>stream\n", 0, api.ErrForm},
		{"7 0 obj <</Length 2>>stream\r\nxyendstream endobj", 0, api.OK}, {"7 0 obj <</Length 2>>stream\r\nxyendstream", 0, api.ErrForm}, {"7 0 obj 1 endobj", 0, api.OK},
	} {
		// The object stands at the very end of the file.
		head := "%PDF- xref 7 1 0000000000 0 n trailer <<>> startxref 5 %\n"
		at := c.at
		if at == 0 {
			at = len(head)
		}
		digits := strconv.Itoa(at)
		b := strings.Replace(head, "0000000000", strings.Repeat("0", 10-len(digits))+digits, 1) + c.in
		x, e := open(t, []byte(b)).Get(7)
		if e != c.want || e != api.OK && !isEmpty(x) {
			t.Errorf("P17.2: %q at %d: %v, %d, want %d", c.in, at, x, e, c.want)
		}
	}
}

func TestStreams(t *testing.T) {
	for _, c := range []struct {
		in   string
		want string
		e    api.Errno
	}{
		{"<</Length 3>>stream\nabc endstream endobj", "abc", api.OK}, {"<</Length 3>>stream\r\nabc\r\nendstream\nendobj", "abc", api.OK}, {"<</Length 3>>%\nstream\nabcendstream%\nendobj", "abc", api.OK},
		{"<</Length 0>>stream\nendstream endobj", "", api.OK}, {"<</Length 0>>stream\n\n\nendstream endobj", "", api.OK}, {"<</Length 3.0>>stream\n\n\r endstream endobj", "\n\r ", api.OK},
		{"<</Length 9>>stream\nendstreamendstream endobj", "endstream", api.OK}, {"<</Length 16>>stream\nendstream endobj endstream endobj", "endstream endobj", api.OK}, {"<</Length 2>>stream\n\x00\xffendstream endobj", "\x00\xff", api.OK},
		{"<</Length 5 0 R>>stream\nabc endstream endobj", "abc", api.OK}, {"<</Length 6 0 R>>stream\nabcd endstream endobj", "abcd", api.OK},
		// Behind the word.
		{"<</Length 3>>stream abc endstream endobj", "", api.ErrForm}, {"<</Length 3>>stream\rabc endstream endobj", "", api.ErrForm}, {"<</Length 3>>stream\r\rabc endstream endobj", "", api.ErrForm}, {"<</Length 3>>stream \nabc endstream endobj", "", api.ErrForm},
		{"<</Length 3>>stream%\nabc endstream endobj", "", api.ErrForm}, {"<</Length 3>>stream(abc endstream endobj", "", api.ErrForm}, {"<<>>stream abc", "", api.ErrForm}, {"<</Length 9 0 R>>stream abc", "", api.ErrForm}, {"<</Length 99999>>stream\rabc", "", api.ErrForm},
		{"<</Length 9 0 R>>stream\r\rabc", "", api.ErrForm},
		// The length.
		{"<<>>stream\nabc endstream endobj", "", api.ErrForm}, {"<</Length null>>stream\nabc endstream endobj", "", api.ErrForm}, {"<</Length -3>>stream\nabc endstream endobj", "", api.ErrForm}, {"<</Length 3.5>>stream\nabc endstream endobj", "", api.ErrForm},
		{"<</Length/x>>stream\nabc endstream endobj", "", api.ErrForm}, {"<</Length[3]>>stream\nabc endstream endobj", "", api.ErrForm}, {"<</Length(3)>>stream\nabc endstream endobj", "", api.ErrForm}, {"<</length 3>>stream\nabc endstream endobj", "", api.ErrForm},
		{"<</Length 2>>stream\nabc endstream endobj", "", api.ErrForm}, {"<</Length 4>>stream\nabcendstream endobj", "", api.ErrForm}, {"<</Length 99999>>stream\nabc endstream endobj", "", api.ErrMore}, {"<</Length 999999999999999999>>stream\nabc endstream endobj", "", api.ErrMore},
		{"<</Length 9 0 R>>stream\nabc endstream endobj", "", api.ErrNone}, {"<</Length 10 0 R>>stream\nabc endstream endobj", "", api.ErrNone}, {"<</Length 11 0 R>>stream\nabc endstream endobj", "", api.ErrForm}, {"<</Length 12 0 R>>stream\nabc endstream endobj", "", api.ErrForm},
		{"<</Length 13 0 R>>stream\nabc endstream endobj", "", api.ErrForm}, {"<</Length 14 0 R>>stream\nabc endstream endobj", "", api.ErrOver}, {"<</Length 15 0 R>>stream\nabc endstream endobj", "", api.ErrForm}, {"<</Length 16 0 R>>stream\nabc endstream endobj", "", api.ErrForm},
		{"<</Length 17 0 R>>stream\nabc endstream endobj", "", api.ErrForm}, {"<</Length 7 0 R>>stream\nabc endstream endobj", "", api.ErrForm}, {"<</Length 18 0 R>>stream\nabc endstream endobj", "", api.ErrMore}, {"<</Length 19 0 R>>stream\nabc endstream endobj", "", api.ErrForm},
		{"<</Length 20 0 R>>stream\nabc endstream endobj", "", api.ErrArg}, {"<</Length 21 0 R>>stream\nabc endstream endobj", "", api.ErrForm}, {"<</Length 22 0 R>>stream\nabc endstream endobj", "", api.ErrLong}, {"<</Length 23 0 R>>stream\nabc endstream endobj", "", api.ErrDeep},
		// Behind the bytes.
		{"<</Length 3>>stream\nabc endstrea endobj", "", api.ErrForm}, {"<</Length 3>>stream\nabc endobj", "", api.ErrForm}, {"<</Length 3>>stream\nabc endstream", "", api.ErrForm}, {"<</Length 3>>stream\nabc endstream endobjx", "", api.ErrForm},
		{"<</Length 3>>stream\nabc endstream x " + over, "", api.ErrForm}, {"<</Length 3>>stream\nabc " + over, "", api.ErrOver}, {"<</Length 3>>stream\nabc endstream " + over, "", api.ErrOver}, {"<</Length 3>>stream\nabc /endstream endobj", "", api.ErrForm},
		{"<</Length 3>>stream\nabc x " + over, "", api.ErrForm}, {"<</Length 3>>stream\nabc endstreamendobj", "", api.ErrForm}, {"<</Length 3>>stream\nabc)", "", api.ErrForm},
	} {
		w := begin().at(7).text("7 0 obj" + c.in + " ")
		w.object(5, "3").object(6, "4.0").free(10).object(11, "-3").object(12, "5 0 R").object(13, "3.5").at(14).text("14 0 obj 3 " + over + " endobj ").at(15).text("15 0 obj 3 x ")
		w.object(16, stream("", "abc")).at(17).text("17 1 obj 3 endobj ").object(18, "999999999999999999").at(19).text("19 0 obj (3) " + over + " ")
		w.entries = append(w.entries, api.Entry{Id: 20, At: 9999999999, Used: true})
		w.at(21).text("21 0 obj 3 stream\n endobj ").at(22).text("22 0 obj 3 " + strings.Repeat("x", 128) + " ").at(23).text("23 0 obj " + strings.Repeat("[", 33) + " ")
		x, e := open(t, w.file("<<>>")).Get(7)
		switch {
		case e != c.e, e != api.OK && !isEmpty(x), e == api.OK && (!x.Stream || string(x.Data) != c.want || x.Obj.Kind != api.ObjDict):
			t.Errorf("P17.2: %.70q: %v, %d, want %q, %d", c.in, x, e, c.want, c.e)
		}
	}
	w := begin().object(7, stream("/A(x)", "abc"))
	if x, e := open(t, w.file("<<>>")).Get(7); printed(x.Obj) != "<< /A <78> /Length 3 >>" || e != api.OK {
		t.Errorf("P17.2: %v, %d", x, e)
	}
	// Bytes up to the very end of the file.
	b := "%PDF- xref 7 1 0000000056 0 n trailer <<>> startxref 5 %\n7 0 obj<</Length 3>>stream\nabc"
	b = strings.Replace(b, "56", strconv.Itoa(strings.Index(b, "7 0 obj")), 1)
	checkGetError(t, "no more bytes", open(t, []byte(b)), 7, api.ErrForm)
	checkGetError(t, "a byte less", open(t, []byte(b[:len(b)-1])), 7, api.ErrMore)
}

func TestResolve(t *testing.T) {
	w := begin().object(1, "/x").object(2, "1 0 R").object(3, stream("/A 1", "abc")).object(4, "3 0 R").object(5, "5 0 R").object(6, "99 0 R").free(7).object(8, "[1 0 R]")
	w.at(9).text("9 0 obj 1 x ").at(10).text("10 0 obj "+over).at(11).text(" 11 0 obj null endobj ").object(12, "9 0 R").object(13, "14 0 R").object(14, "13 0 R")
	for id := 100; id < 140; id++ {
		w.object(id, strconv.Itoa(id+1)+" 0 R")
	}
	w.object(140, "/end")
	w.entries = append(w.entries, api.Entry{Id: 15, At: 9999999, Used: true})
	f := open(t, w.file("<<>>"))
	ref := func(id int) api.Obj { return api.Obj{Kind: api.ObjRef, Ref: id} }
	for _, c := range []struct {
		o    api.Obj
		want string
		e    api.Errno
	}{
		{ref(1), "/x", api.OK}, {ref(2), "/x", api.OK}, {ref(3), "<< /A 1 /Length 3 >>", api.OK}, {ref(4), "<< /A 1 /Length 3 >>", api.OK}, {ref(6), "null", api.OK}, {ref(7), "null", api.OK}, {ref(99), "null", api.OK}, {ref(8), "[ 1 0 R ]", api.OK}, {ref(11), "null", api.OK},
		{ref(5), "null", api.ErrDeep}, {ref(13), "null", api.ErrDeep}, {ref(9), "null", api.ErrForm}, {ref(10), "null", api.ErrOver}, {ref(12), "null", api.ErrForm}, {ref(15), "null", api.ErrArg},
		{ref(109), "/end", api.OK}, {ref(108), "null", api.ErrDeep}, {ref(107), "null", api.ErrDeep}, {ref(140), "/end", api.OK}, {ref(110), "/end", api.OK},
		{ref(0), "null", api.OK}, {ref(-1), "null", api.OK}, {ref(math.MaxInt), "null", api.OK},
		{api.Obj{}, "null", api.OK}, {parse(t, "[1 0 R 2 0 R]"), "[ 1 0 R 2 0 R ]", api.OK}, {parse(t, "<</A 1 0 R>>"), "<< /A 1 0 R >>", api.OK}, {parse(t, "7"), "7", api.OK}, {parse(t, "(1 0 R)"), "<3120302052>", api.OK},
		{api.Obj{Kind: 77}, "not valid: 1", api.OK}, {api.Obj{Kind: api.ObjNum, Ref: 1}, "not valid: 1", api.OK},
	} {
		o, e := f.Resolve(c.o)
		if printed(o) != c.want || e != c.e {
			t.Errorf("P17.3: %d %d: %s, %d, want %s, %d", c.o.Kind, c.o.Ref, printed(o), e, c.want, c.e)
		}
	}
	// The last of 32 references may refer to nothing, or to something wrong; a reference behind it is not followed.
	w = begin()
	for id := 1; id < 32; id++ {
		w.object(id, strconv.Itoa(id+1)+" 0 R")
	}
	for _, c := range []struct {
		last string
		want api.Errno
	}{{"32 0 obj 33 0 R endobj ", api.ErrDeep}, {"32 0 obj null endobj ", api.OK}, {"32 0 obj x ", api.ErrForm}, {"32 0 obj " + over + " ", api.ErrOver}} {
		v := &builder{b: slices.Clone(w.b), entries: slices.Clone(w.entries)}
		if o, e := open(t, v.at(32).text(c.last).at(33).text(over+" ").file("<<>>")).Resolve(ref(1)); o.Kind != api.ObjNull || e != c.want {
			t.Errorf("P17.3: %q: %v, %d, want %d", c.last, o, e, c.want)
		}
	}
}
