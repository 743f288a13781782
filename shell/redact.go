package shell

import (
	"strconv"

	"erasure/api"
	"erasure/zlib"
)

const (
	wordOn  = "on"
	wordOff = "off"
)

func (i *interpreter) mark(w *words) (string, api.Errno) {
	page, b := w.whole(), w.box()
	w.end()
	return done, i.session.Mark(api.Region{Page: page, Box: b})
}

func (i *interpreter) find(w *words) (string, api.Errno) {
	text := w.next()
	w.end()
	n, e := i.session.MarkText(text)
	return strconv.Itoa(n), e
}

func (i *interpreter) unmark(w *words) (string, api.Errno) {
	k := w.whole()
	w.end()
	return done, i.session.Unmark(k)
}

func (i *interpreter) setCovers(w *words) (string, api.Errno) {
	word := w.next()
	w.end()
	w.need(word == wordOn || word == wordOff)
	i.covers = word == wordOn
	return done, api.OK
}

func (i *interpreter) text(w *words) (string, api.Errno) {
	page := w.whole()
	w.end()
	t, e := i.session.Text(page)
	return escaped(t), e
}

func (i *interpreter) left(w *words) (string, api.Errno) {
	page := w.whole()
	w.end()
	pages, e := i.session.Apply(i.covers)
	if e != api.OK {
		return "", e
	}
	w.need(page < len(pages))
	return strconv.Itoa(len(pages[page].Marks)), api.OK
}

func (i *interpreter) save(w *words) (string, api.Errno) {
	w.end()
	b, e := i.session.Save(i.covers)
	if e != api.OK {
		return "", e
	}
	return strconv.Itoa(zlib.Sum(b)) + blank + strconv.Itoa(len(b)), api.OK
}
