package inflate

import (
	"slices"

	"erasure/api"
	"erasure/bits"
	"erasure/huff"
	"erasure/token"
)

// The types of blocks.
const (
	stored  = 0
	fixed   = 1
	dynamic = 2
)

const (
	maxSymbols   = 286 // symbol lengths of a dynamic block
	maxDistances = 30  // its distance lengths

	firstRepeat = 16 // the code length symbols below it are lengths themselves
)

// repeats tells, for each code length symbol from firstRepeat on, how many bits
// follow it, and for how many lengths it stands if these are 0.
var repeats = [...]struct{ bits, least int }{{2, 3}, {3, 3}, {7, 11}}

// order is the order in which the lengths of the code length codes are told.
var order = [...]int{16, 17, 18, 0, 8, 7, 9, 6, 10, 5, 11, 4, 12, 3, 13, 2, 14, 1, 15}

// codes are those by which the symbols of a block are read.
type codes struct {
	symbols, distances *huff.Table
}

// decoder reads blocks and keeps their tokens.
type decoder struct {
	reader    *bits.Reader
	lengths   []token.Span
	distances []token.Span
	fixed     codes // none before the first block that needs them
	most      int
	made      int // bytes for which the tokens stand
	tokens    []api.Token
}

func newDecoder(b []byte, most int) *decoder {
	return &decoder{
		reader:    bits.NewReader(b),
		lengths:   token.Lengths(),
		distances: token.Distances(),
		most:      most,
	}
}

// blocks reads all blocks up to the last one.
func (d *decoder) blocks() api.Errno {
blocks:
	for last := false; !last; {
		header, e := d.fields(1, 2)
		if e != api.OK {
			return e
		}
		last = header[0] == 1
		var c codes
		switch header[1] {
		case stored:
			if e := d.stored(); e != api.OK {
				return e
			}
			continue blocks
		case fixed:
			c = d.fixedCodes()
		case dynamic:
			c, e = d.dynamicCodes()
		default:
			e = api.ErrForm
		}
		if e != api.OK {
			return e
		}
		if e := d.compressed(c); e != api.OK {
			return e
		}
	}
	return api.OK
}

// stored reads a block of bytes that are not compressed.
func (d *decoder) stored() api.Errno {
	d.reader.Align()
	n, e := d.fields(16, 16)
	if e != api.OK {
		return e
	}
	if n[0]+n[1] != 1<<16-1 {
		return api.ErrForm
	}
	l, e := d.reader.Bytes(n[0])
	if e != api.OK {
		return e
	}
	for _, x := range l {
		if e := d.add(api.Token{Byte: int(x)}); e != api.OK {
			return e
		}
	}
	return api.OK
}

// compressed reads the symbols of a block, up to its end.
func (d *decoder) compressed(c codes) api.Errno {
symbols:
	for {
		s, e := c.symbols.Read(d.reader)
		switch {
		case e != api.OK:
			return e
		case s == token.End:
			break symbols
		case s < token.End:
			e = d.add(api.Token{Byte: s})
		default:
			e = d.match(s-token.Length, c.distances)
		}
		if e != api.OK {
			return e
		}
	}
	return api.OK
}

// match reads what follows the symbol of a length.
func (d *decoder) match(s int, distances *huff.Table) api.Errno {
	length, e := d.number(d.lengths, s)
	if e != api.OK {
		return e
	}
	s, e = distances.Read(d.reader)
	if e != api.OK {
		return e
	}
	back, e := d.number(d.distances, s)
	if e != api.OK {
		return e
	}
	if back > d.made {
		return api.ErrForm
	}
	return d.add(api.Token{Length: length, Back: back})
}

// number reads the extra bits of a symbol and returns the number that it tells.
func (d *decoder) number(l []token.Span, s int) (int, api.Errno) {
	if s >= len(l) {
		return 0, api.ErrForm
	}
	extra, e := d.reader.Bits(l[s].Bits)
	if e != api.OK {
		return 0, e
	}
	return l[s].First + extra, api.OK
}

func (d *decoder) add(t api.Token) api.Errno {
	if size(t) > d.most-d.made {
		return api.ErrLong
	}
	d.made += size(t)
	d.tokens = append(d.tokens, t)
	return api.OK
}

// fields reads numbers of so many bits, one after the other.
func (d *decoder) fields(widths ...int) ([]int, api.Errno) {
	l := make([]int, len(widths))
	for i, n := range widths {
		v, e := d.reader.Bits(n)
		if e != api.OK {
			return nil, e
		}
		l[i] = v
	}
	return l, api.OK
}

func (d *decoder) fixedCodes() codes {
	if d.fixed.symbols == nil {
		// Both lists are complete, so that Make takes them.
		d.fixed.symbols, _ = huff.Make(huff.Fixed())
		d.fixed.distances, _ = huff.Make(slices.Repeat([]int{5}, 32))
	}
	return d.fixed
}

// dynamicCodes reads the codes with which a dynamic block begins.
func (d *decoder) dynamicCodes() (codes, api.Errno) {
	n, e := d.fields(5, 5, 4)
	if e != api.OK {
		return codes{}, e
	}
	symbols, distances := n[0]+257, n[1]+1
	if symbols > maxSymbols || distances > maxDistances {
		return codes{}, api.ErrForm
	}
	t, e := d.codeLengthCodes(n[2] + 4)
	if e != api.OK {
		return codes{}, e
	}
	l, e := d.codeLengths(t, symbols+distances)
	if e != api.OK {
		return codes{}, e
	}
	return makeCodes(l[:symbols], l[symbols:])
}

// codeLengthCodes reads the first n lengths of the codes for lengths.
func (d *decoder) codeLengthCodes(n int) (*huff.Table, api.Errno) {
	told, e := d.fields(slices.Repeat([]int{3}, n)...)
	if e != api.OK {
		return nil, e
	}
	l := make([]int, len(order))
	for i, length := range told {
		l[order[i]] = length
	}
	return huff.Make(l)
}

// codeLengths reads the lengths of n codes as one sequence.
func (d *decoder) codeLengths(t *huff.Table, n int) ([]int, api.Errno) {
	var l []int
	for len(l) < n {
		s, e := t.Read(d.reader)
		if e != api.OK {
			return nil, e
		}
		if s < firstRepeat {
			l = append(l, s)
			continue
		}
		length := 0
		if s == firstRepeat {
			if len(l) == 0 {
				return nil, api.ErrForm
			}
			length = l[len(l)-1]
		}
		more, e := d.reader.Bits(repeats[s-firstRepeat].bits)
		if e != api.OK {
			return nil, e
		}
		l = append(l, slices.Repeat([]int{length}, repeats[s-firstRepeat].least+more)...)
	}
	if len(l) > n {
		return nil, api.ErrForm
	}
	return l, api.OK
}

func makeCodes(symbols, distances []int) (codes, api.Errno) {
	if symbols[token.End] == 0 {
		return codes{}, api.ErrForm
	}
	s, e := huff.Make(symbols)
	if e != api.OK {
		return codes{}, e
	}
	t, e := huff.Make(distances)
	if e != api.OK {
		return codes{}, e
	}
	return codes{symbols: s, distances: t}, api.OK
}
