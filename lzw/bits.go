package lzw

import "erasure/api"

const inByte = 8 // bits of a byte

// reader reads codes, most significant bit first.
type reader struct {
	rest []byte
	word int // bits that were not read yet, the next one most significant
	held int // how many these are
}

// code reads a code of n bits.
func (r *reader) code(n int) (int, api.Errno) {
	for r.held < n {
		if len(r.rest) == 0 {
			return 0, api.ErrMore
		}
		r.word = r.word<<inByte | int(r.rest[0])
		r.held += inByte
		r.rest = r.rest[1:]
	}
	r.held -= n
	code := r.word >> r.held
	r.word -= code << r.held
	return code, api.OK
}

// writer writes codes, most significant bit first.
type writer struct {
	done []byte // whole bytes
	word int    // the bits behind them
	held int    // how many these are
}

// put writes a code of n bits.
func (w *writer) put(code, n int) {
	w.word = w.word<<n | code
	w.held += n
	for w.held >= inByte {
		w.held -= inByte
		w.done = append(w.done, byte(w.word>>w.held))
		w.word %= 1 << w.held
	}
}

// bytes returns all bytes, the last one filled up with bits 0.
func (w *writer) bytes() []byte {
	if w.held == 0 {
		return w.done
	}
	return append(w.done, byte(w.word<<(inByte-w.held)))
}
