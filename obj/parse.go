package obj

import (
	"maps"
	"slices"

	"erasure/api"
	"erasure/lex"
)

// Parse returns the object from offset at on, and the offset after it.
func Parse(b []byte, at int) (api.Obj, int, api.Errno) {
	p := &parser{b: b, at: at}
	o, e := p.object(0)
	if e != api.OK {
		return api.Obj{}, 0, e
	}
	return o, p.at, api.OK
}

// parser reads objects, one token after the other.
type parser struct {
	b  []byte
	at int
}

func (p *parser) next() (api.Tok, api.Errno) {
	t, at, e := lex.Next(p.b, p.at)
	p.at = at
	return t, e
}

// object reads an object that is nested in depth others.
func (p *parser) object(depth int) (api.Obj, api.Errno) {
	t, e := p.next()
	if e != api.OK {
		return api.Obj{}, e
	}
	return p.from(t, depth)
}

// from reads the rest of an object that begins with t.
func (p *parser) from(t api.Tok, depth int) (api.Obj, api.Errno) {
	switch t.Kind {
	case api.TokEnd:
		return api.Obj{}, api.ErrNone
	case api.TokNum:
		return p.number(t.Num)
	case api.TokName:
		return api.Obj{Kind: api.ObjName, Text: t.Text}, api.OK
	case api.TokText:
		return api.Obj{Kind: api.ObjText, Text: t.Text}, api.OK
	case api.TokWord:
		return fromWord(t.Text)
	case api.TokList, api.TokDict:
		if depth == api.MaxDepth {
			return api.Obj{}, api.ErrDeep
		}
		if t.Kind == api.TokList {
			return p.list(depth + 1)
		}
		return p.dict(depth + 1)
	}
	return api.Obj{}, api.ErrForm
}

func fromWord(t string) (api.Obj, api.Errno) {
	switch t {
	case wordNull:
		return api.Obj{}, api.OK
	case wordTrue:
		return api.Obj{Kind: api.ObjBool, Bool: true}, api.OK
	case wordFalse:
		return api.Obj{Kind: api.ObjBool}, api.OK
	}
	return api.Obj{}, api.ErrForm
}

// number returns the number first, or the reference that begins with it.
func (p *parser) number(first api.Dec) (api.Obj, api.Errno) {
	alone := api.Obj{Kind: api.ObjNum, Num: first}
	if first.S != 0 || first.M < 1 || first.M > api.MaxId {
		return alone, api.OK
	}
	second, at, e := lex.Next(p.b, p.at)
	if e != api.OK || second.Kind != api.TokNum || second.Num.S != 0 || second.Num.M < 0 {
		return alone, api.OK
	}
	third, at, e := lex.Next(p.b, at)
	if e != api.OK || third != word(wordRef) {
		return alone, api.OK
	}
	if second.Num.M != 0 {
		return api.Obj{}, api.ErrForm
	}
	p.at = at
	return api.Obj{Kind: api.ObjRef, Ref: first.M}, api.OK
}

// list reads the rest of a list, whose parts are nested in depth others.
func (p *parser) list(depth int) (api.Obj, api.Errno) {
	o := api.Obj{Kind: api.ObjList}
	for {
		t, e := p.part(api.TokShut, len(o.Parts))
		if e != api.OK {
			return api.Obj{}, e
		}
		if t.Kind == api.TokShut {
			return o, api.OK
		}
		part, e := p.from(t, depth)
		if e != api.OK {
			return api.Obj{}, e
		}
		o.Parts = append(o.Parts, part)
	}
}

// dict reads the rest of a dictionary, whose parts are nested in depth others.
func (p *parser) dict(depth int) (api.Obj, api.Errno) {
	parts := map[string]api.Obj{}
	for {
		t, e := p.part(api.TokClose, len(parts))
		if e != api.OK {
			return api.Obj{}, e
		}
		if t.Kind == api.TokClose {
			return dictOf(parts), api.OK
		}
		_, twice := parts[t.Text]
		if t.Kind != api.TokName || twice {
			return api.Obj{}, api.ErrForm
		}
		part, e := p.object(depth)
		if e != api.OK {
			return api.Obj{}, e
		}
		parts[t.Text] = part
	}
}

// part returns the token that ends a list or dictionary with so many parts, or the first one of its next part.
func (p *parser) part(end int, parts int) (api.Tok, api.Errno) {
	t, e := p.next()
	switch {
	case e != api.OK:
		return api.Tok{}, e
	case t.Kind == api.TokEnd:
		return api.Tok{}, api.ErrNone
	case t.Kind != end && parts == api.MaxParts:
		return api.Tok{}, api.ErrLong
	}
	return t, api.OK
}

func dictOf(parts map[string]api.Obj) api.Obj {
	o := api.Obj{Kind: api.ObjDict, Keys: slices.Sorted(maps.Keys(parts))}
	for _, k := range o.Keys {
		o.Parts = append(o.Parts, parts[k])
	}
	return o
}
