package xref

import (
	"cmp"
	"slices"

	"erasure/api"
	"erasure/lex"
	"erasure/obj"
)

// Parse returns the entries and the trailer of the table from offset at on, and the offset after it.
func Parse(b []byte, at int) ([]api.Entry, api.Obj, int, api.Errno) {
	p := &parser{b: b, at: at, ids: map[int]struct{}{}}
	trailer, e := p.table()
	if e != api.OK {
		return nil, api.Obj{}, 0, e
	}
	slices.SortFunc(p.entries, func(x, y api.Entry) int { return cmp.Compare(x.Id, y.Id) })
	return p.entries, trailer, p.at, api.OK
}

// parser reads a table, one token after the other.
type parser struct {
	b       []byte
	at      int
	entries []api.Entry
	ids     map[int]struct{} // of the entries
}

// table reads a table, and returns its trailer.
func (p *parser) table() (api.Obj, api.Errno) {
	t, e := p.next()
	if e != api.OK {
		return api.Obj{}, e
	}
	if !isWord(t, wordTable) {
		return api.Obj{}, api.ErrForm
	}
	for {
		t, e := p.next()
		if e != api.OK {
			return api.Obj{}, e
		}
		if isWord(t, wordTrailer) {
			return p.trailer()
		}
		if e := p.section(t); e != api.OK {
			return api.Obj{}, e
		}
	}
}

func (p *parser) trailer() (api.Obj, api.Errno) {
	o, at, e := obj.Parse(p.b, p.at)
	if e != api.OK {
		return api.Obj{}, e
	}
	if o.Kind != api.ObjDict {
		return api.Obj{}, api.ErrForm
	}
	p.at = at
	return o, api.OK
}

// section reads the rest of a section that begins with t.
func (p *parser) section(t api.Tok) api.Errno {
	if !isWhole(t) {
		return api.ErrForm
	}
	id := t.Num.M
	count, e := p.whole()
	if e != api.OK {
		return e
	}
	for i := range count {
		if len(p.entries) == maxEntries {
			return api.ErrLong
		}
		if e := p.entry(id + i); e != api.OK {
			return e
		}
	}
	return api.OK
}

func (p *parser) entry(id int) api.Errno {
	first, e := p.whole()
	if e != api.OK {
		return e
	}
	second, e := p.whole()
	if e != api.OK {
		return e
	}
	t, e := p.next()
	if e != api.OK {
		return e
	}
	used := isWord(t, wordUsed)
	if !used && !isWord(t, wordFree) {
		return api.ErrForm
	}
	_, twice := p.ids[id]
	if twice || id > api.MaxId || first > maxAt || second > maxSecond || used && second != 0 {
		return api.ErrForm
	}
	if !used {
		first = 0
	}
	p.ids[id] = struct{}{}
	p.entries = append(p.entries, api.Entry{Id: id, At: first, Used: used})
	return api.OK
}

// whole reads a whole number that is not negative.
func (p *parser) whole() (int, api.Errno) {
	t, e := p.next()
	if e != api.OK {
		return 0, e
	}
	if !isWhole(t) {
		return 0, api.ErrForm
	}
	return t.Num.M, api.OK
}

func (p *parser) next() (api.Tok, api.Errno) {
	t, at, e := lex.Next(p.b, p.at)
	p.at = at
	return t, e
}

func isWhole(t api.Tok) bool {
	return t.Kind == api.TokNum && t.Num.S == 0 && t.Num.M >= 0
}

func isWord(t api.Tok, word string) bool {
	return t.Kind == api.TokWord && t.Text == word
}
