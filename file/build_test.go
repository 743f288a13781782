package file_test

import (
	"reflect"
	"slices"
	"strconv"
	"strings"
	"testing"

	"erasure/api"
	"erasure/file"
	"erasure/obj"
	"erasure/xref"
)

// builder writes a file.
type builder struct {
	b       []byte
	entries []api.Entry // of the next table
}

func begin() *builder {
	return &builder{b: []byte("%PDF-1.4\n")}
}

// at makes the next bytes those of the object id.
func (w *builder) at(id int) *builder {
	w.entries = append(w.entries, api.Entry{Id: id, At: len(w.b), Used: true})
	return w
}

func (w *builder) free(id int) *builder {
	w.entries = append(w.entries, api.Entry{Id: id})
	return w
}

func (w *builder) text(t string) *builder {
	w.b = append(w.b, t...)
	return w
}

// object writes an object as it should be.
func (w *builder) object(id int, t string) *builder {
	return w.at(id).text(strconv.Itoa(id) + " 0 obj\n" + t + "\nendobj\n")
}

// table writes a table of what was written since the one before, and returns its offset.
func (w *builder) table(trailer string) int {
	at := len(w.b)
	slices.SortFunc(w.entries, func(x, y api.Entry) int { return x.Id - y.Id })
	s, e := xref.Print(w.entries, api.Obj{Kind: api.ObjDict})
	if e != api.OK {
		panic("wrong entries")
	}
	w.text(strings.TrimSuffix(s, "<< >>\n") + trailer + "\n")
	w.entries = nil
	return at
}

// file ends the file with a table.
func (w *builder) file(trailer string) []byte {
	return w.end(w.table(trailer))
}

// end ends the file with the offset of the newest table.
func (w *builder) end(at int) []byte {
	return []byte(string(w.b) + "startxref\n" + strconv.Itoa(at) + "\n%%EOF\n")
}

// stream is a stream of the right length, with more in its dictionary.
func stream(more, data string) string {
	return "<</Length " + strconv.Itoa(len(data)) + more + ">>stream\n" + data + "\nendstream"
}

func open(t *testing.T, b []byte) *file.File {
	t.Helper()
	f, e := file.Open(b)
	if e != api.OK || f == nil {
		t.Fatalf("P17.1: %.300q: %d", b, e)
	}
	return f
}

// parse returns an object.
func parse(t *testing.T, s string) api.Obj {
	t.Helper()
	o, _, e := obj.Parse([]byte(s), 0)
	if e != api.OK {
		t.Fatalf("%q: %d", s, e)
	}
	return o
}

func printed(o api.Obj) string {
	s, e := obj.Print(o)
	if e != api.OK {
		return "not valid: " + strconv.Itoa(int(e))
	}
	return s
}

func isEmpty(x api.Item) bool {
	return reflect.DeepEqual(x, api.Item{})
}

// checkGet asks for an object that is no stream.
func checkGet(t *testing.T, f *file.File, id int, want string) {
	t.Helper()
	x, e := f.Get(id)
	if printed(x.Obj) != want || x.Stream || x.Data != nil || e != api.OK {
		t.Errorf("P17.2: object %d: %v, %d, want %s", id, x, e, want)
	}
}

func checkGetError(t *testing.T, name string, f *file.File, id int, want api.Errno) {
	t.Helper()
	if x, e := f.Get(id); !isEmpty(x) || e != want {
		t.Errorf("P17.2: %s: %v, %d, want %d", name, x, e, want)
	}
}
