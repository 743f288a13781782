package view

import (
	"slices"

	"erasure/api"
	"erasure/font"
	"erasure/matrix"
	"erasure/named"
)

const (
	codeBlank = 32
	maxMode   = 7
	clipping  = 4 // the first mode that clips
)

func (p *painter) beginText(api.Op) api.Errno {
	p.inText, p.t, p.line = true, matrix.One(), matrix.One()
	return api.OK
}

func (p *painter) endText(api.Op) api.Errno {
	p.inText = false
	return api.OK
}

func (p *painter) setChar(o api.Op) api.Errno {
	p.now.text.char = o.Args[0].Num
	return api.OK
}

func (p *painter) setWord(o api.Op) api.Errno {
	p.now.text.word = o.Args[0].Num
	return api.OK
}

func (p *painter) setScale(o api.Op) api.Errno {
	p.now.text.scale = o.Args[0].Num
	return api.OK
}

func (p *painter) setLead(o api.Op) api.Errno {
	p.now.text.lead = o.Args[0].Num
	return api.OK
}

func (p *painter) setRise(o api.Op) api.Errno {
	p.now.text.rise = o.Args[0].Num
	return api.OK
}

func (p *painter) setMode(o api.Op) api.Errno {
	mode := o.Args[0].Num
	if mode.S != 0 || mode.M < 0 || mode.M > maxMode {
		return api.ErrForm
	}
	if mode.M >= clipping {
		return api.ErrKind
	}
	p.now.text.mode = mode.M
	return api.OK
}

func (p *painter) setFont(o api.Op) api.Errno {
	name := o.Args[0].Text
	f, found := named.Find(p.fonts, name)
	if !found {
		return api.ErrNone
	}
	p.now.text.font, p.now.text.hasFont = api.Named{Name: name, Font: f}, true
	p.now.text.size = o.Args[1].Num
	return api.OK
}

func (p *painter) moveLine(o api.Op) api.Errno {
	return p.move(o.Args[0].Num, o.Args[1].Num)
}

func (p *painter) leadLine(o api.Op) api.Errno {
	var c calculator
	p.now.text.lead = c.neg(o.Args[1].Num)
	return p.moveLine(o)
}

func (p *painter) placeText(o api.Op) api.Errno {
	p.line = matrixOf(o.Args)
	p.t = p.line
	return api.OK
}

func (p *painter) nextLine(api.Op) api.Errno {
	var c calculator
	return p.move(api.Dec{}, c.neg(p.now.text.lead))
}

// move begins a line at a distance from the last one.
func (p *painter) move(x, y api.Dec) api.Errno {
	var c calculator
	p.line = c.then(c.step(x, y), p.line)
	p.t = p.line
	return c.e
}

func (p *painter) showText(o api.Op) api.Errno {
	return p.show(o.Args[0].Text)
}

func (p *painter) showLine(o api.Op) api.Errno {
	if e := p.nextLine(o); e != api.OK {
		return e
	}
	return p.showText(o)
}

func (p *painter) showSpaced(o api.Op) api.Errno {
	p.now.text.word, p.now.text.char = o.Args[0].Num, o.Args[1].Num
	return p.showLine(api.Op{Args: o.Args[2:]})
}

func (p *painter) showParts(o api.Op) api.Errno {
	for _, part := range o.Args[0].Parts {
		e := api.OK
		if part.Kind == api.ObjText {
			e = p.show(part.Text)
		} else {
			e = p.kern(part.Num)
		}
		if e != api.OK {
			return e
		}
	}
	return api.OK
}

// kern moves back by n thousandths.
func (p *painter) kern(n api.Dec) api.Errno {
	var c calculator
	x := c.mul(c.mul(c.thousandths(c.neg(n)), p.now.text.size), c.hundredths(p.now.text.scale))
	p.t = c.then(c.step(x, api.Dec{}), p.t)
	return c.e
}

func (p *painter) show(t string) api.Errno {
	if !p.now.text.hasFont {
		return api.ErrNone
	}
	codes, e := font.Codes(p.now.text.font.Font, t)
	if e != api.OK {
		return e
	}
	for _, code := range codes {
		if e := p.glyph(code); e != api.OK {
			return e
		}
	}
	return api.OK
}

// glyph marks a code, and moves behind it.
func (p *painter) glyph(code int) api.Errno {
	s := p.now.text
	width := font.Find(s.font.Font, code).Width
	var c calculator
	h := c.hundredths(s.scale)
	m := c.then(c.then(api.Mat{A: c.mul(s.size, h), D: s.size, F: s.rise}, p.t), p.now.c)
	b, e := glyphBox(m, width)
	c.keep(e)
	if e := p.mark(api.Mark{Kind: api.MarkGlyph, M: m, Name: s.font.Name, Code: code, State: p.glyphState(), Box: b}, c.e); e != api.OK {
		return e
	}
	x := c.add(c.mul(c.thousandths(api.Dec{M: width}), s.size), s.char)
	if !s.font.Font.Wide && code == codeBlank {
		x = c.add(x, s.word)
	}
	p.t = c.then(c.step(c.mul(x, h), api.Dec{}), p.t)
	return c.e
}

// glyphState returns the settings, and the mode if it is not the first one.
func (p *painter) glyphState() []api.Op {
	if p.now.text.mode == 0 {
		return slices.Clone(p.now.settings)
	}
	mode := api.Obj{Kind: api.ObjNum, Num: api.Dec{M: p.now.text.mode}}
	return with(p.now.settings, api.Op{Name: "Tr", Args: []api.Obj{mode}})
}
