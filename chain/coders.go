package chain

import (
	"erasure/api"
	"erasure/ascii"
	lzwcodes "erasure/lzw"
	runs "erasure/run"
	"erasure/zlib"
)

// coding is a function of a filter.
type coding func(b []byte) ([]byte, api.Errno)

// decoder decodes to at most so many bytes.
type decoder struct {
	most int
}

// all returns the functions of the filters, in the order of their places.
func (d decoder) all() [filters]coding {
	return [filters]coding{
		hex:    d.hex,
		base85: d.base85,
		run:    d.run,
		lzw:    d.lzw,
		flate:  d.flate,
	}
}

func (d decoder) hex(b []byte) ([]byte, api.Errno) {
	return ascii.Unhex(string(b), d.most)
}

func (d decoder) base85(b []byte) ([]byte, api.Errno) {
	return ascii.Get(string(b), d.most)
}

func (d decoder) run(b []byte) ([]byte, api.Errno) {
	return runs.Get(b, d.most)
}

func (d decoder) lzw(b []byte) ([]byte, api.Errno) {
	return lzwcodes.Get(b, d.most)
}

func (d decoder) flate(b []byte) ([]byte, api.Errno) {
	return zlib.Unpack(b, d.most)
}

// encoder has the functions that are undone by those of a decoder.
type encoder struct{}

func (c encoder) all() [filters]coding {
	return [filters]coding{
		hex:    c.hex,
		base85: c.base85,
		run:    c.run,
		lzw:    c.lzw,
		flate:  c.flate,
	}
}

func (c encoder) hex(b []byte) ([]byte, api.Errno) {
	return []byte(ascii.Hex(b)), api.OK
}

func (c encoder) base85(b []byte) ([]byte, api.Errno) {
	return []byte(ascii.Put(b)), api.OK
}

func (c encoder) run(b []byte) ([]byte, api.Errno) {
	return runs.Put(b)
}

func (c encoder) lzw(b []byte) ([]byte, api.Errno) {
	return lzwcodes.Put(b)
}

func (c encoder) flate(b []byte) ([]byte, api.Errno) {
	return zlib.Pack(b)
}
