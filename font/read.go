package font

import (
	"maps"
	"slices"

	"erasure/api"
	"erasure/obj"
)

// The keys of a font dictionary, and names that stand there.
const (
	keySubtype   = "Subtype"
	keyType      = "Type"
	keyFirst     = "FirstChar"
	keyWidths    = "Widths"
	keyOther     = "DW"
	keyGroups    = "W"
	nameType     = "Font"
	nameType1    = "Type1"
	nameTrueType = "TrueType"
	nameType0    = "Type0"
)

const defaultOther = 1000

// Read returns the font of a dictionary and of what its codes mean.
func Read(o api.Obj, means []api.Glyph) (api.Font, api.Errno) {
	if !areMappings(means) {
		return api.Font{}, api.ErrArg
	}
	f, e := read(o)
	if e != api.OK {
		return api.Font{}, e
	}
	if n := len(means); n > 0 && !isCode(f, means[n-1].Code) {
		return api.Font{}, api.ErrArg
	}
	f.Glyphs = withTexts(f, means)
	if len(f.Glyphs) > maxGlyphs {
		return api.Font{}, api.ErrLong
	}
	return f, api.OK
}

// areMappings tells whether means is an ordered list of mappings of wide codes.
func areMappings(means []api.Glyph) bool {
	for i, g := range means {
		if g.Code < 0 || g.Code >= wideCodes || g.Width != 0 || !isText(g.Text) {
			return false
		}
		if i > 0 && means[i-1].Code >= g.Code {
			return false
		}
	}
	return true
}

// read reads a font without its texts.
func read(o api.Obj) (api.Font, api.Errno) {
	// What is no dictionary has no name there either.
	subtype, _ := obj.Get(o, keySubtype)
	if subtype.Kind != api.ObjName {
		return api.Font{}, api.ErrForm
	}
	switch subtype.Text {
	case nameType1, nameTrueType:
		return readSimple(o)
	case nameType0:
		return readWide(o)
	}
	return api.Font{}, api.ErrKind
}

func readSimple(o api.Obj) (api.Font, api.Errno) {
	v, _ := obj.Get(o, keyFirst)
	first, ok := whole(v, simpleCodes-1)
	if !ok {
		return api.Font{}, api.ErrForm
	}
	list, _ := obj.Get(o, keyWidths)
	widths, ok := wholes(list, maxWidth)
	if !ok || len(widths) > simpleCodes-first {
		return api.Font{}, api.ErrForm
	}
	var f api.Font
	for i, width := range widths {
		f.Glyphs = append(f.Glyphs, api.Glyph{Code: first + i, Width: width})
	}
	return f, api.OK
}

func readWide(o api.Obj) (api.Font, api.Errno) {
	f := api.Font{Wide: true, Other: defaultOther}
	if v, found := obj.Get(o, keyOther); found {
		other, ok := whole(v, maxWidth)
		if !ok {
			return api.Font{}, api.ErrForm
		}
		f.Other = other
	}
	if v, found := obj.Get(o, keyGroups); found {
		widths, ok := readGroups(v)
		if !ok {
			return api.Font{}, api.ErrForm
		}
		for _, code := range slices.Sorted(maps.Keys(widths)) {
			f.Glyphs = append(f.Glyphs, api.Glyph{Code: code, Width: widths[code]})
		}
	}
	return f, api.OK
}

// readGroups returns the widths of codes by a list of groups, if it is one.
func readGroups(o api.Obj) (map[int]int, bool) {
	if o.Kind != api.ObjList {
		return nil, false
	}
	widths := map[int]int{}
	for rest := o.Parts; len(rest) > 0; {
		first, row, size := readGroup(rest)
		if size == 0 {
			return nil, false
		}
		for i, width := range row {
			if _, twice := widths[first+i]; twice {
				return nil, false
			}
			widths[first+i] = width
		}
		rest = rest[size:]
	}
	return widths, true
}

// readGroup returns the first code of a group, the widths from that one on, and the number of the group's parts, 0 if it has another form.
func readGroup(l []api.Obj) (int, []int, int) {
	first, ok := whole(l[0], wideCodes-1)
	if !ok || len(l) < 2 {
		return 0, nil, 0
	}
	if l[1].Kind == api.ObjList {
		row, ok := wholes(l[1], maxWidth)
		if !ok || len(row) > wideCodes-first {
			return 0, nil, 0
		}
		return first, row, 2
	}
	last, ok := whole(l[1], wideCodes-1)
	if !ok || last < first || len(l) < 3 {
		return 0, nil, 0
	}
	width, ok := whole(l[2], maxWidth)
	if !ok {
		return 0, nil, 0
	}
	return first, slices.Repeat([]int{width}, last-first+1), 3
}

// wholes returns the numbers of a list of whole numbers up to most, if it is one.
func wholes(o api.Obj, most int) ([]int, bool) {
	if o.Kind != api.ObjList {
		return nil, false
	}
	var l []int
	for _, p := range o.Parts {
		n, ok := whole(p, most)
		if !ok {
			return nil, false
		}
		l = append(l, n)
	}
	return l, true
}

// whole returns a whole number from 0 to most, if o is one.
func whole(o api.Obj, most int) (int, bool) {
	if o.Kind != api.ObjNum || o.Num.S != 0 || o.Num.M < 0 || o.Num.M > most {
		return 0, false
	}
	return o.Num.M, true
}

// withTexts returns the glyphs of f with the texts of means, and those that f does not have yet.
func withTexts(f api.Font, means []api.Glyph) []api.Glyph {
	var out []api.Glyph
	glyphs := f.Glyphs
	for _, m := range means {
		i, found := place(glyphs, m.Code)
		out = append(out, glyphs[:i]...)
		glyphs = glyphs[i:]
		g := api.Glyph{Code: m.Code, Width: f.Other}
		if found {
			g, glyphs = glyphs[0], glyphs[1:]
		}
		g.Text = m.Text
		out = append(out, g)
	}
	return append(out, glyphs...)
}
