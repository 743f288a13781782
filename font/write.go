package font

import "erasure/api"

// Write returns the dictionary of f, and what its codes mean.
func Write(f api.Font) (api.Obj, []api.Glyph, api.Errno) {
	if e := Check(f); e != api.OK {
		return api.Obj{}, nil, e
	}
	if !f.Wide && f.Other > 0 {
		return api.Obj{}, nil, api.ErrKind
	}
	var means []api.Glyph
	for _, g := range f.Glyphs {
		if g.Text != "" {
			means = append(means, api.Glyph{Code: g.Code, Text: g.Text})
		}
	}
	if f.Wide {
		return writeWide(f), means, api.OK
	}
	return writeSimple(f), means, api.OK
}

func writeSimple(f api.Font) api.Obj {
	first := 0
	if len(f.Glyphs) > 0 {
		first = f.Glyphs[0].Code
	}
	widths := overRuns(f.Glyphs, func(l []int, run []api.Glyph) []int {
		gap := make([]int, run[0].Code-first-len(l))
		return append(append(l, gap...), widthsOf(run)...)
	})
	return api.Obj{
		Kind:  api.ObjDict,
		Keys:  []string{keyFirst, keySubtype, keyType, keyWidths},
		Parts: []api.Obj{number(first), name(nameType1), name(nameType), numbers(widths)},
	}
}

func writeWide(f api.Font) api.Obj {
	groups := overRuns(f.Glyphs, func(l []api.Obj, run []api.Glyph) []api.Obj {
		return append(l, number(run[0].Code), numbers(widthsOf(run)))
	})
	return api.Obj{
		Kind:  api.ObjDict,
		Keys:  []string{keyOther, keySubtype, keyType, keyGroups},
		Parts: []api.Obj{number(f.Other), name(nameType0), name(nameType), {Kind: api.ObjList, Parts: groups}},
	}
}

// overRuns builds a list: add appends to it what a run of consecutive codes, as long as there is, contributes.
func overRuns[T any](glyphs []api.Glyph, add func(l []T, run []api.Glyph) []T) []T {
	var l []T
	for len(glyphs) > 0 {
		n := 1
		for n < len(glyphs) && glyphs[n].Code == glyphs[0].Code+n {
			n++
		}
		l = add(l, glyphs[:n])
		glyphs = glyphs[n:]
	}
	return l
}

func widthsOf(run []api.Glyph) []int {
	var l []int
	for _, g := range run {
		l = append(l, g.Width)
	}
	return l
}

func numbers(l []int) api.Obj {
	o := api.Obj{Kind: api.ObjList}
	for _, n := range l {
		o.Parts = append(o.Parts, number(n))
	}
	return o
}

func number(n int) api.Obj {
	return api.Obj{Kind: api.ObjNum, Num: api.Dec{M: n}}
}

func name(t string) api.Obj {
	return api.Obj{Kind: api.ObjName, Text: t}
}
