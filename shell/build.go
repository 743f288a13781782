package shell

import (
	"cmp"
	"slices"
	"strconv"

	"erasure/api"
	"erasure/ops"
	"erasure/save"
	"erasure/session"
	"erasure/view"
)

const fontName = "F"

func (i *interpreter) page(w *words) (string, api.Errno) {
	b := w.box()
	w.end()
	i.pages = append(i.pages, api.Page{Box: b, Fonts: []api.Named{{Name: fontName}}})
	return strconv.Itoa(len(i.pages) - 1), api.OK
}

// last returns the page that is being built; the line ends if there is none.
func (i *interpreter) last(w *words) *api.Page {
	w.need(len(i.pages) > 0)
	return &i.pages[len(i.pages)-1]
}

func (i *interpreter) glyph(w *words) (string, api.Errno) {
	g := api.Glyph{Code: w.whole(), Width: w.whole(), Text: wideText(w.next())}
	w.end()
	f := &i.last(w).Fonts[0].Font
	at, found := slices.BinarySearchFunc(f.Glyphs, g.Code, func(x api.Glyph, code int) int { return cmp.Compare(x.Code, code) })
	if found {
		f.Glyphs[at] = g
	} else {
		f.Glyphs = slices.Insert(f.Glyphs, at, g)
	}
	return done, api.OK
}

// wideText returns bytes, each with a byte 00 ahead of it.
func wideText(t string) string {
	var out []byte
	for k := range len(t) {
		out = append(out, 0, t[k])
	}
	return string(out)
}

func (i *interpreter) draw(w *words) (string, api.Errno) {
	p := i.last(w)
	l, e := ops.Parse([]byte(w.line()))
	if e != api.OK {
		return "", e
	}
	marks, e := view.See(l, p.Fonts)
	if e != api.OK {
		return "", e
	}
	p.Marks = append(p.Marks, marks...)
	return strconv.Itoa(len(p.Marks)), api.OK
}

func (i *interpreter) open(w *words) (string, api.Errno) {
	w.end()
	b, e := save.Save(i.pages)
	if e != api.OK {
		return "", e
	}
	s, e := session.Open(b)
	if e != api.OK {
		return "", e
	}
	i.session = s
	return done, api.OK
}
