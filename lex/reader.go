package lex

import (
	"bytes"

	"erasure/api"
	"erasure/dec"
)

const maxOctal = 3 // digits of an escape

// reader reads the bytes of one token.
type reader struct {
	b  []byte
	at int
}

func (r *reader) more() bool {
	return r.at < len(r.b)
}

// take returns the next byte, of which there must be one.
func (r *reader) take() byte {
	c := r.b[r.at]
	r.at++
	return c
}

// skip takes the next byte if it is c, and tells whether it was.
func (r *reader) skip(c byte) bool {
	if !r.more() || r.b[r.at] != c {
		return false
	}
	r.at++
	return true
}

// regulars takes all regular characters that follow.
func (r *reader) regulars() []byte {
	from := r.at
	for r.more() && isRegular(r.b[r.at]) {
		r.at++
	}
	return r.b[from:r.at]
}

func (r *reader) next() (api.Tok, api.Errno) {
	r.gap()
	if !r.more() {
		return api.Tok{Kind: api.TokEnd}, api.OK
	}
	if isRegular(r.b[r.at]) {
		return plain(string(r.regulars()))
	}
	switch r.take() {
	case '[':
		return api.Tok{Kind: api.TokList}, api.OK
	case ']':
		return api.Tok{Kind: api.TokShut}, api.OK
	case '/':
		return name(r.regulars())
	case '(':
		return r.text()
	case '<':
		if r.skip('<') {
			return api.Tok{Kind: api.TokDict}, api.OK
		}
		return r.hexText()
	case '>':
		if r.skip('>') {
			return api.Tok{Kind: api.TokClose}, api.OK
		}
	}
	return api.Tok{}, api.ErrForm
}

// gap takes white space and comments.
func (r *reader) gap() {
	for r.more() && (isSpace(r.b[r.at]) || r.b[r.at] == '%') {
		if r.take() == '%' {
			r.comment()
		}
	}
}

func (r *reader) comment() {
	for r.more() && r.b[r.at] != '\n' && r.b[r.at] != '\r' {
		r.at++
	}
}

// text reads a string whose opening parenthesis was taken.
func (r *reader) text() (api.Tok, api.Errno) {
	var out []byte
	open := 1
reading:
	for r.more() {
		c := r.take()
		switch c {
		case '(':
			open++
		case ')':
			open--
			if open == 0 {
				break reading
			}
		case '\r':
			r.skip('\n')
			c = '\n'
		case '\\':
			stands := false
			c, stands = r.escape()
			if !stands {
				continue reading
			}
		}
		out = append(out, c)
	}
	if open > 0 {
		return api.Tok{}, api.ErrForm
	}
	return limited(api.TokText, out)
}

// escape reads what follows a backslash, and tells whether it stands for a byte.
func (r *reader) escape() (byte, bool) {
	if !r.more() {
		return 0, false
	}
	c := r.take()
	switch c {
	case 'n':
		return '\n', true
	case 'r':
		return '\r', true
	case 't':
		return '\t', true
	case 'b':
		return '\b', true
	case 'f':
		return '\f', true
	case '\n':
		return 0, false
	case '\r':
		r.skip('\n')
		return 0, false
	}
	if isOctal(c) {
		return r.octal(c), true
	}
	return c, true
}

// octal reads the digits that follow the first one. What exceeds a byte is lost, as it must be.
func (r *reader) octal(digit byte) byte {
	n := digit - '0'
	for digits := 1; digits < maxOctal && r.more() && isOctal(r.b[r.at]); digits++ {
		n = n*8 + r.take() - '0'
	}
	return n
}

// hexText reads a hexadecimal string whose opening bracket was taken.
func (r *reader) hexText() (api.Tok, api.Errno) {
	size := bytes.IndexByte(r.b[r.at:], '>')
	if size < 0 {
		return api.Tok{}, api.ErrForm
	}
	body := r.b[r.at : r.at+size]
	r.at += size + 1
	var out []byte
	high := true
	for _, c := range body {
		if isSpace(c) {
			continue
		}
		v, ok := hexValue(c)
		switch {
		case !ok:
			return api.Tok{}, api.ErrForm
		case high:
			out = append(out, v*16)
		default:
			out[len(out)-1] += v
		}
		high = !high
	}
	return limited(api.TokText, out)
}

// name returns the name of the characters behind its slash.
func name(body []byte) (api.Tok, api.Errno) {
	r := &reader{b: body}
	var out []byte
	for r.more() {
		c := r.take()
		if c == '#' {
			ok := false
			c, ok = r.hexByte()
			if !ok || c == 0 {
				return api.Tok{}, api.ErrForm
			}
		}
		out = append(out, c)
	}
	return limited(api.TokName, out)
}

// hexByte reads two hexadecimal digits, and tells whether they are there.
func (r *reader) hexByte() (byte, bool) {
	if len(r.b)-r.at < 2 {
		return 0, false
	}
	high, ok := hexValue(r.take())
	low, alsoOk := hexValue(r.take())
	return high*16 + low, ok && alsoOk
}

// plain returns the number or the word of regular characters.
func plain(t string) (api.Tok, api.Errno) {
	n, e := dec.Parse(t)
	switch {
	case e == api.OK:
		return api.Tok{Kind: api.TokNum, Num: n}, api.OK
	case e != api.ErrForm:
		return api.Tok{}, e
	case len(t) > maxWord:
		return api.Tok{}, api.ErrLong
	}
	return api.Tok{Kind: api.TokWord, Text: t}, api.OK
}

func limited(kind int, content []byte) (api.Tok, api.Errno) {
	if len(content) > api.MaxText {
		return api.Tok{}, api.ErrLong
	}
	return api.Tok{Kind: kind, Text: string(content)}, api.OK
}
