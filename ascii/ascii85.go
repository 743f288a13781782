package ascii

import (
	"slices"
	"strings"

	"erasure/api"
)

const (
	end     = "~>"
	first   = '!'
	last    = 'u'
	zeros   = 'z' // four bytes 0
	base    = 85
	inBytes = 4 // bytes of a group
	inText  = 5 // its characters

	maxNumber = 1<<32 - 1
)

// Put returns five characters for each four bytes, and the end.
func Put(b []byte) string {
	var t []byte
	for group := range slices.Chunk(b, inBytes) {
		n := bigEndian(group)
		if n == 0 && len(group) == inBytes {
			t = append(t, zeros)
			continue
		}
		digits := digitsOf(n)
		t = append(t, digits[:len(group)+1]...)
	}
	return string(t) + end
}

// Get returns the bytes of the characters ahead of the end.
func Get(t string, most int) ([]byte, api.Errno) {
	if !allowed(most) {
		return nil, api.ErrArg
	}
	body, _, found := strings.Cut(t, end)
	if !found {
		return nil, api.ErrForm
	}
	d := decoder{most: most}
	for _, c := range body {
		if isSpace(c) {
			continue
		}
		if e := d.take(c); e != api.OK {
			return nil, e
		}
	}
	if e := d.rest(); e != api.OK {
		return nil, e
	}
	if len(d.bytes) > most {
		return nil, api.ErrLong
	}
	return d.bytes, api.OK
}

// bigEndian returns the big-endian number of up to four bytes, filled up with bytes 0.
func bigEndian(group []byte) int {
	n := 0
	for i := range inBytes {
		n *= 256
		if i < len(group) {
			n += int(group[i])
		}
	}
	return n
}

// digitsOf returns the characters of a number, the most significant first.
func digitsOf(n int) [inText]byte {
	var digits [inText]byte
	for i := range digits {
		digits[inText-1-i] = byte(first + n%base)
		n /= base
	}
	return digits
}

// decoder collects the bytes of characters.
type decoder struct {
	most   int
	bytes  []byte // these stop once they are more than most
	number int    // of the characters of a group that is not whole yet
	held   int    // how many these are
}

// take takes a character that is no white space.
func (d *decoder) take(c rune) api.Errno {
	switch {
	case c == zeros && d.held == 0:
		d.add(0, inBytes)
		return api.OK
	case c < first || c > last:
		return api.ErrForm
	}
	d.number = d.number*base + int(c-first)
	d.held++
	if d.held < inText {
		return api.OK
	}
	return d.group(inBytes)
}

// rest takes the characters that are left over.
func (d *decoder) rest() api.Errno {
	if d.held == 0 {
		return api.OK
	}
	if d.held == 1 {
		return api.ErrForm
	}
	n := d.held - 1
	for ; d.held < inText; d.held++ {
		d.number = d.number*base + int(last-first)
	}
	return d.group(n)
}

// group adds the first n bytes of a whole group, and begins the next one.
func (d *decoder) group(n int) api.Errno {
	if d.number > maxNumber {
		return api.ErrForm
	}
	d.add(d.number, n)
	d.number, d.held = 0, 0
	return api.OK
}

// add adds the first n bytes of a number.
func (d *decoder) add(number, n int) {
	if len(d.bytes) > d.most {
		return
	}
	l := [inBytes]byte{byte(number >> 24), byte(number >> 16), byte(number >> 8), byte(number)}
	d.bytes = append(d.bytes, l[:n]...)
}
