package file

import (
	"slices"

	"erasure/api"
	"erasure/lex"
	"erasure/obj"
	"erasure/xref"
)

// The words of an object.
const (
	wordBegin     = "obj"
	wordEnd       = "endobj"
	wordStream    = "stream"
	wordEndStream = "endstream"
)

// The keys of a trailer, and of a stream.
const (
	keyEncrypt = "Encrypt"
	keyHybrid  = "XRefStm"
	keyPrev    = "Prev"
	keyLength  = "Length"
)

// reader reads a file from some offset on. It keeps its first failure, and reads zero values from then on.
type reader struct {
	b  []byte
	at int
	e  api.Errno
}

func newReader(b []byte, at int) *reader {
	return &reader{b: b, at: at, e: api.OK}
}

// fail keeps e, unless there was a failure before.
func (r *reader) fail(e api.Errno) {
	if r.e == api.OK {
		r.e = e
	}
}

func (r *reader) token() api.Tok {
	if r.e != api.OK {
		return api.Tok{}
	}
	t, at, e := lex.Next(r.b, r.at)
	r.at = at
	r.fail(e)
	return t
}

// require reads a token that must be want.
func (r *reader) require(want api.Tok) {
	if r.token() != want {
		r.fail(api.ErrForm)
	}
}

// whole reads a token that must be a whole number, not negative.
func (r *reader) whole() int {
	t := r.token()
	if t.Kind != api.TokNum || !isWhole(t.Num) {
		r.fail(api.ErrForm)
	}
	return t.Num.M
}

func (r *reader) object() api.Obj {
	if r.e != api.OK {
		return api.Obj{}
	}
	o, at, e := obj.Parse(r.b, r.at)
	r.at = at
	r.fail(e)
	return o
}

// integer returns the number of an object, which must be an integer.
func (r *reader) integer(o api.Obj) int {
	n, ok := integerOf(o)
	if !ok {
		r.fail(api.ErrForm)
	}
	return n
}

// table reads the table at an offset.
func (r *reader) table(at int) ([]api.Entry, api.Obj) {
	l, trailer, _, e := xref.Parse(r.b, at)
	r.fail(e)
	if _, found := obj.Get(trailer, keyEncrypt); found {
		r.fail(api.ErrKind)
	}
	if _, found := obj.Get(trailer, keyHybrid); found {
		r.fail(api.ErrForm)
	}
	return l, trailer
}

// newline reads the end of the line of the word stream.
func (r *reader) newline() {
	if r.skip('\n') {
		return
	}
	if !r.skip('\r') || !r.skip('\n') {
		r.fail(api.ErrForm)
	}
}

// skip reads the next byte if it is c, and tells whether it was.
func (r *reader) skip(c byte) bool {
	if r.e != api.OK || r.at >= len(r.b) || r.b[r.at] != c {
		return false
	}
	r.at++
	return true
}

// bytes reads n bytes.
func (r *reader) bytes(n int) []byte {
	if r.e == api.OK && n > len(r.b)-r.at {
		r.fail(api.ErrMore)
	}
	if r.e != api.OK {
		return nil
	}
	from := r.at
	r.at += n
	return slices.Clone(r.b[from:r.at])
}

func integerOf(o api.Obj) (int, bool) {
	if o.Kind != api.ObjNum || !isWhole(o.Num) {
		return 0, false
	}
	return o.Num.M, true
}

func isWhole(d api.Dec) bool {
	return d.S == 0 && d.M >= 0
}

func isWord(t api.Tok, want string) bool {
	return t == word(want)
}

func word(t string) api.Tok {
	return api.Tok{Kind: api.TokWord, Text: t}
}

func number(n int) api.Tok {
	return api.Tok{Kind: api.TokNum, Num: api.Dec{M: n}}
}
