package lzw

// longer is a string of the table, told by the code of the string without its last byte.
type longer struct {
	code int
	next byte
}

// encoder finds the codes of strings.
type encoder struct {
	writer  writer
	table   map[longer]int // the codes of its entries
	strings int            // codes of strings that were put since the table was cleared
}

// longest returns the code of the longest string at the beginning of b, and its length.
func (e *encoder) longest(b []byte) (int, int) {
	code := int(b[0])
	for n, next := range b[1:] {
		entry, found := e.table[longer{code: code, next: next}]
		if !found {
			return code, n + 1
		}
		code = entry
	}
	return code, len(b)
}

// put puts the code of a string.
func (e *encoder) put(code int) {
	e.writer.put(code, e.width())
	e.strings++
}

// enter makes a string the next entry, and clears a table that is full.
func (e *encoder) enter(l longer) {
	e.table[l] = firstEntry + len(e.table)
	if len(e.table) == putEntries {
		e.clear()
	}
}

func (e *encoder) clear() {
	e.writer.put(clearing, e.width())
	e.table = map[longer]int{}
	e.strings = 0
}

func (e *encoder) end() {
	e.writer.put(ending, e.width())
}

// width returns the number of bits with which Get reads the next code. By then
// Get has an entry for each string but the first one.
func (e *encoder) width() int {
	return width(max(0, e.strings-1))
}
