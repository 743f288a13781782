package lzw

import (
	"slices"

	"erasure/api"
)

// span is where a string stands in the bytes that were found. One without bytes is none.
type span struct {
	begin, end int
}

// decoder finds the strings of codes.
type decoder struct {
	reader   reader
	most     int
	out      []byte
	table    []span
	previous span
}

func (d *decoder) clear() {
	d.table = nil
	d.previous = span{}
}

// take appends the string of a code, and makes the next entry.
func (d *decoder) take(code int) api.Errno {
	text, e := d.text(code)
	if e != api.OK {
		return e
	}
	if len(text) > d.most-len(d.out) {
		return api.ErrLong
	}
	this := span{begin: len(d.out), end: len(d.out) + len(text)}
	d.out = append(d.out, text...)
	if d.hasPrevious() && len(d.table) < maxEntries {
		// The byte behind the previous string is the first one of this string.
		d.table = append(d.table, span{begin: d.previous.begin, end: d.previous.end + 1})
	}
	d.previous = this
	return api.OK
}

// text returns the string of a code.
func (d *decoder) text(code int) ([]byte, api.Errno) {
	entry := code - firstEntry
	switch {
	case code < clearing:
		return []byte{byte(code)}, api.OK
	case entry < len(d.table):
		return d.bytes(d.table[entry]), api.OK
	case entry == len(d.table) && d.hasPrevious():
		previous := d.bytes(d.previous)
		return slices.Concat(previous, previous[:1]), api.OK
	}
	return nil, api.ErrForm
}

func (d *decoder) hasPrevious() bool {
	return d.previous != span{}
}

func (d *decoder) bytes(s span) []byte {
	return d.out[s.begin:s.end]
}
