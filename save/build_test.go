package save_test

import (
	"bytes"
	"fmt"
	"maps"
	"slices"
	"strconv"
	"strings"
	"testing"

	"erasure/api"
	"erasure/dec"
	"erasure/ops"
	"erasure/save"
	"erasure/view"
	"erasure/zlib"
)

// objects are those of a file by their numbers.
type objects map[int]string

// pdf returns a file of objects.
func pdf(l objects) []byte { return pdfWith(l, "/Root 1 0 R") }

func pdfWith(l objects, trailer string) []byte {
	b := []byte("%PDF-1.4\n")
	table := "xref\n0 1\n0000000000 65535 f \n"
	for _, id := range slices.Sorted(maps.Keys(l)) {
		table += fmt.Sprintf("%d 1\n%010d 00000 n \n", id, len(b))
		b = append(b, fmt.Sprintf("%d 0 obj\n%s\nendobj\n", id, l[id])...)
	}
	at := len(b)
	return append(b, table+"trailer\n<<"+trailer+">>\nstartxref\n"+strconv.Itoa(at)+"\n%%EOF\n"...)
}

// stream returns a stream of data without filters.
func stream(data, keys string) string {
	return "<<" + keys + "/Length " + strconv.Itoa(len(data)) + ">>stream\n" + data + "\nendstream"
}

const imageKeys = "/Subtype/Image/ColorSpace/DeviceGray/Width 2/Height 1/BitsPerComponent 8"

// good returns the objects of a file with one page, which has a font and a picture. Object 50 can't be read, 51 refers to itself, and 52 is not there.
func good() objects {
	return objects{
		1: "<</Type/Catalog/Pages 2 0 R>>", 2: "<</Type/Pages/Kids[3 0 R]/Count 1/MediaBox[0 0 9 9]>>", 3: "<</Type/Page/Parent 2 0 R/Contents 4 0 R/Resources 5 0 R>>",
		4: stream("BT /F 1 Tf (A) Tj ET /X Do", ""), 5: "<</Font 6 0 R/XObject 7 0 R>>", 6: "<</F 8 0 R>>", 7: "<</X 9 0 R>>",
		8: "<</Subtype/Type1/FirstChar 65/Widths[500]/ToUnicode 10 0 R>>", 9: stream("ab", imageKeys), 10: stream("1 beginbfchar <41> <0041> endbfchar", ""),
		50: "1000000000000000000", 51: "51 0 R",
	}
}

// with returns the objects of the good file, of which some are changed.
func with(changes objects) objects {
	l := good()
	maps.Copy(l, changes)
	return l
}

func number(m int) api.Dec { return api.Dec{M: m} }

func area(x0, y0, x1, y1 int) api.Box {
	return api.Box{X0: number(x0), Y0: number(y0), X1: number(x1), Y1: number(y1)}
}

func marks(t *testing.T, s string, fonts []api.Named) []api.Mark {
	t.Helper()
	l, e := ops.Parse([]byte(s))
	if e != api.OK {
		t.Fatalf("P20.1: %q: %d", s, e)
	}
	m, e := view.See(l, fonts)
	if e != api.OK {
		t.Fatalf("P21.1: %q: %d", s, e)
	}
	return m
}

func picture(name string, width, height, bits, comps int, data string) api.Picture {
	return api.Picture{Name: name, Image: api.Image{Width: width, Height: height, Bits: bits, Comps: comps, Data: []byte(data)}}
}

// told returns all of some pages as a text, in which lists that are nil and lists that are empty are the same.
func told(l []api.Page) string {
	s := ""
	for i, p := range l {
		s += fmt.Sprintf("page %d %v\n", i, p.Box)
		for _, f := range p.Fonts {
			s += fmt.Sprintf("  font %q %v %d %q\n", f.Name, f.Font.Wide, f.Font.Other, fmt.Sprint(f.Font.Glyphs))
		}
		for _, x := range p.Pictures {
			s += fmt.Sprintf("  picture %q %d %d %d %d %q\n", x.Name, x.Image.Width, x.Image.Height, x.Image.Bits, x.Image.Comps, x.Image.Data)
		}
		for _, m := range p.Marks {
			s += fmt.Sprintf("  mark %d %v %q %d %v %s | %s\n", m.Kind, m.M, m.Name, m.Code, m.Box, printed(m.State), printed(m.Ops))
		}
	}
	return s
}

func printed(l []api.Op) string {
	s, e := ops.Print(l)
	if e != api.OK {
		return fmt.Sprint(l)
	}
	return strconv.Quote(s)
}

// packed returns a packed stream of data, with keys that stand ahead of Filter, and others behind Length.
func packed(t *testing.T, data, ahead, between, behind string) string {
	t.Helper()
	b, e := zlib.Pack([]byte(data))
	if e != api.OK {
		t.Fatal(e)
	}
	words := strings.Fields(ahead + " /Filter /FlateDecode " + between + " /Length " + strconv.Itoa(len(b)) + " " + behind)
	return "<< " + strings.Join(words, " ") + " >>\nstream\n" + string(b) + "\nendstream"
}

// written returns the file that is saved with these objects, numbered from 1 on.
func written(l ...string) []byte {
	b := []byte("%PDF-1.7\n")
	table := fmt.Sprintf("xref\n0 %d\n0000000000 65535 f \n", len(l)+1)
	for i, s := range l {
		table += fmt.Sprintf("%010d 00000 n \n", len(b))
		b = append(b, fmt.Sprintf("%d 0 obj\n%s\nendobj\n", i+1, s)...)
	}
	return fmt.Appendf(b, "%strailer\n<< /Root 1 0 R /Size %d >>\nstartxref\n%d\n%%%%EOF\n", table, len(l)+1, len(b))
}

// saved saves pages, and loads them again.
func saved(t *testing.T, l []api.Page) ([]byte, []api.Page) {
	t.Helper()
	b, e := save.Save(l)
	if e != api.OK {
		t.Fatalf("P25.2: %s: %d", told(l), e)
	}
	if again, _ := save.Save(l); !bytes.Equal(again, b) {
		t.Fatalf("T1: %s", told(l))
	}
	back, e := save.Load(b)
	if e != api.OK {
		t.Fatalf("P25.3: %q: %d", b, e)
	}
	return b, back
}

func decimal(t *testing.T, s string) api.Dec {
	t.Helper()
	d, e := dec.Parse(s)
	if e != api.OK {
		t.Fatalf("P1.2: %q: %d", s, e)
	}
	return d
}
