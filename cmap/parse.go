package cmap

import (
	"cmp"
	"slices"

	"erasure/api"
	"erasure/lex"
)

// reading returns the next token of a map.
type reading func() (api.Tok, api.Errno)

// Parse returns the mappings of the map b.
func Parse(b []byte, wide bool) ([]api.Glyph, api.Errno) {
	s := &source{b: b}
	m := &mappings{wide: wide, codes: map[int]struct{}{}}
	if e := m.read(s.next); e != api.OK {
		return nil, e
	}
	slices.SortFunc(m.l, func(x, y api.Glyph) int { return cmp.Compare(x.Code, y.Code) })
	return m.l, api.OK
}

// source gives one token after the other.
type source struct {
	b  []byte
	at int
}

func (s *source) next() (api.Tok, api.Errno) {
	t, at, e := lex.Next(s.b, s.at)
	s.at = at
	return t, e
}

// mappings are those that were read.
type mappings struct {
	wide  bool
	l     []api.Glyph
	codes map[int]struct{}
}

// read reads all blocks up to the end.
func (m *mappings) read(next reading) api.Errno {
	for {
		t, e := next()
		switch {
		case e != api.OK || t.Kind == api.TokEnd:
			return e
		case t == word(wordChars):
			e = groups(next, wordCharsEnd, 2, m.pair)
		case t == word(wordSpans):
			e = groups(next, wordSpansEnd, 3, func(group []api.Tok) api.Errno { return m.span(next, group) })
		}
		if e != api.OK {
			return e
		}
	}
}

// groups reads groups of so many tokens up to the word end, and gives each to take once it is whole.
func groups(next reading, end string, size int, take func([]api.Tok) api.Errno) api.Errno {
	var group []api.Tok
	for {
		t, e := next()
		if e != api.OK {
			return e
		}
		if len(group) == 0 && t == word(end) {
			return api.OK
		}
		group = append(group, t)
		if len(group) < size {
			continue
		}
		if e := take(group); e != api.OK {
			return e
		}
		group = nil
	}
}

// pair adds the mapping of a code and a text.
func (m *mappings) pair(group []api.Tok) api.Errno {
	code, ok := m.code(group[0])
	if !ok || group[1].Kind != api.TokText {
		return api.ErrForm
	}
	return m.add(code, group[1].Text)
}

// span adds the mappings of a first and a last code, and a text or a list of them, of which the beginning was read.
func (m *mappings) span(next reading, group []api.Tok) api.Errno {
	first, ok := m.code(group[0])
	last, alsoOk := m.code(group[1])
	if !ok || !alsoOk || last < first {
		return api.ErrForm
	}
	switch group[2].Kind {
	case api.TokText:
		return m.rising(first, last, group[2].Text)
	case api.TokList:
		return m.list(next, first, last)
	}
	return api.ErrForm
}

// rising adds mappings whose texts rise in their last byte.
func (m *mappings) rising(first, last int, text string) api.Errno {
	if !validText(text) {
		return api.ErrForm
	}
	front, tail := text[:len(text)-1], int(text[len(text)-1])
	if tail+last-first > 255 {
		return api.ErrForm
	}
	for i := range last - first + 1 {
		if e := m.add(first+i, front+string([]byte{byte(tail + i)})); e != api.OK {
			return e
		}
	}
	return api.OK
}

// list adds mappings whose texts come one after the other.
func (m *mappings) list(next reading, first, last int) api.Errno {
	for code := first; code <= last; code++ {
		t, e := next()
		if e != api.OK {
			return e
		}
		if t.Kind != api.TokText {
			return api.ErrForm
		}
		if e := m.add(code, t.Text); e != api.OK {
			return e
		}
	}
	t, e := next()
	if e == api.OK && t.Kind != api.TokShut {
		return api.ErrForm
	}
	return e
}

func (m *mappings) add(code int, text string) api.Errno {
	if !validText(text) {
		return api.ErrForm
	}
	if len(m.l) == maxMappings {
		return api.ErrLong
	}
	if _, twice := m.codes[code]; twice {
		return api.ErrForm
	}
	m.codes[code] = struct{}{}
	m.l = append(m.l, api.Glyph{Code: code, Text: text})
	return api.OK
}

// code returns the code that a token stands for, and whether it is one.
func (m *mappings) code(t api.Tok) (int, bool) {
	if t.Kind != api.TokText {
		return 0, false
	}
	switch {
	case !m.wide && len(t.Text) == 1:
		return int(t.Text[0]), true
	case m.wide && len(t.Text) == 2:
		return int(t.Text[0])*256 + int(t.Text[1]), true
	}
	return 0, false
}

func word(t string) api.Tok {
	return api.Tok{Kind: api.TokWord, Text: t}
}
