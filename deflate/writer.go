package deflate

import (
	"slices"
	"sort"

	"erasure/api"
	"erasure/bits"
	"erasure/huff"
	"erasure/token"
)

// told is how a number is told: by the place of its symbol in a table, and by
// the number of extra bits.
type told struct {
	place, extra, bits int
}

// finder returns the search of a table for the greatest first number that is
// at most the one to be told.
func finder(l []token.Span) func(number int) told {
	return func(number int) told {
		place := sort.Search(len(l), func(i int) bool { return l[i].First > number }) - 1
		return told{place: place, extra: number - l[place].First, bits: l[place].Bits}
	}
}

// writer puts valid tokens into one block.
type writer struct {
	bits         *bits.Writer
	symbols      *huff.Table
	distances    *huff.Table
	findLength   func(number int) told
	findDistance func(number int) told
}

func newWriter() *writer {
	w := &writer{
		bits:         bits.NewWriter(),
		findLength:   finder(token.Lengths()),
		findDistance: finder(token.Distances()),
	}
	// Both lists of lengths are complete, so that Make takes them.
	w.symbols, _ = huff.Make(huff.Fixed())
	w.distances, _ = huff.Make(slices.Repeat([]int{5}, 32))
	return w
}

// begin puts that the block is the last one, and that its codes are fixed.
func (w *writer) begin() {
	w.bits.Put(1, 1)
	w.bits.Put(1, 2)
}

func (w *writer) put(t api.Token) {
	if t.Length == 0 {
		w.symbols.Put(w.bits, t.Byte)
		return
	}
	length, back := w.findLength(t.Length), w.findDistance(t.Back)
	w.symbols.Put(w.bits, token.Length+length.place)
	w.bits.Put(length.extra, length.bits)
	w.distances.Put(w.bits, back.place)
	w.bits.Put(back.extra, back.bits)
}

// end ends the block and returns all bytes.
func (w *writer) end() []byte {
	w.symbols.Put(w.bits, token.End)
	return w.bits.Bytes()
}
