package ops

import (
	"maps"
	"slices"

	"erasure/api"
	"erasure/lex"
	"erasure/obj"
)

// Parse returns the operators of the content b.
func Parse(b []byte) ([]api.Op, api.Errno) {
	p := &parser{b: b}
	return p.content()
}

// parser reads a content from some offset on.
type parser struct {
	b  []byte
	at int
}

func (p *parser) content() ([]api.Op, api.Errno) {
	var l []api.Op
	var operands []api.Obj
collecting:
	for {
		t, end, e := lex.Next(p.b, p.at)
		switch {
		case e != api.OK:
			return nil, e
		case t.Kind == api.TokEnd:
			break collecting
		case t.Kind != api.TokWord || isOperand(t.Text):
			operands, e = p.operand(operands)
			if e != api.OK {
				return nil, e
			}
			continue collecting
		case isReserved(t.Text) || t.Text == wordImage && len(operands) > 0:
			return nil, api.ErrForm
		case len(l) == maxOps:
			return nil, api.ErrLong
		}
		p.at = end
		if t.Text == wordImage {
			operands, e = p.image()
			if e != api.OK {
				return nil, e
			}
		}
		l = append(l, api.Op{Name: t.Text, Args: operands})
		operands = nil
	}
	if len(operands) > 0 {
		return nil, api.ErrForm
	}
	return l, api.OK
}

// operand reads an object, and appends it to the operands.
func (p *parser) operand(l []api.Obj) ([]api.Obj, api.Errno) {
	o, e := p.object()
	if e != api.OK {
		return nil, e
	}
	if len(l) == api.MaxParts {
		return nil, api.ErrLong
	}
	return append(l, o), api.OK
}

// object reads an object without references.
func (p *parser) object() (api.Obj, api.Errno) {
	o, at, e := obj.Parse(p.b, p.at)
	switch {
	case e == api.ErrNone:
		return api.Obj{}, api.ErrForm
	case e != api.OK:
		return api.Obj{}, e
	case refers(o):
		return api.Obj{}, api.ErrForm
	}
	p.at = at
	return o, api.OK
}

// image reads the rest of an inline image, and returns its dictionary and its bytes.
func (p *parser) image() ([]api.Obj, api.Errno) {
	dict, e := p.dict()
	if e != api.OK {
		return nil, e
	}
	// The objects are read as if they stood alone, but here they stand in a dictionary.
	if obj.Check(dict) == api.ErrDeep {
		return nil, api.ErrDeep
	}
	data, e := p.data()
	if e != api.OK {
		return nil, e
	}
	return []api.Obj{dict, data}, api.OK
}

// dict reads names and their objects, up to the word ID.
func (p *parser) dict() (api.Obj, api.Errno) {
	parts := map[string]api.Obj{}
	for {
		t, at, e := lex.Next(p.b, p.at)
		if e != api.OK {
			return api.Obj{}, e
		}
		p.at = at
		if t.Kind == api.TokWord && t.Text == wordData {
			return dictOf(parts), api.OK
		}
		_, twice := parts[t.Text]
		if t.Kind != api.TokName || twice {
			return api.Obj{}, api.ErrForm
		}
		o, e := p.object()
		if e != api.OK {
			return api.Obj{}, e
		}
		if len(parts) == api.MaxParts {
			return api.Obj{}, api.ErrLong
		}
		parts[t.Text] = o
	}
}

func dictOf(parts map[string]api.Obj) api.Obj {
	o := api.Obj{Kind: api.ObjDict, Keys: slices.Sorted(maps.Keys(parts))}
	for _, k := range o.Keys {
		o.Parts = append(o.Parts, parts[k])
	}
	return o
}

// data reads the bytes of an inline image, from behind the word ID to behind the word EI.
func (p *parser) data() (api.Obj, api.Errno) {
	if p.at == len(p.b) || !isSpace(p.b[p.at]) {
		return api.Obj{}, api.ErrForm
	}
	rest := p.b[p.at+1:]
	size := endOfImage(rest)
	if size < 0 {
		return api.Obj{}, api.ErrForm
	}
	if size > api.MaxText {
		return api.Obj{}, api.ErrLong
	}
	p.at += 1 + size + 1 + len(wordEnd)
	return api.Obj{Kind: api.ObjText, Text: string(rest[:size])}, api.OK
}
