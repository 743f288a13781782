package predict

import (
	"slices"

	"erasure/api"
)

// layout is how the rows of a predictor stand in bytes, and how they are predicted.
type layout struct {
	head  int // bytes ahead of a row: its tag, if it has one
	size  int // bytes of a row
	step  int
	table table
}

func layoutOf(p api.Parms) layout {
	l := layout{size: Row(p), step: wholeBytes(p.Colors * p.Bits), table: tableOf(p.Predictor)}
	if p.Predictor >= png {
		l.head = 1
	}
	return l
}

func undoRows(p api.Parms, b []byte) ([]byte, api.Errno) {
	l := layoutOf(p)
	if len(b)%(l.head+l.size) != 0 {
		return nil, api.ErrForm
	}
	out := make([]byte, 0, len(b))
	upper := make([]byte, l.size)
	for told := range slices.Chunk(b, l.head+l.size) {
		tag := tagBefore
		if l.head > 0 {
			tag = int(told[0])
		}
		if tag >= tags {
			return nil, api.ErrForm
		}
		out = append(out, told[l.head:]...)
		row := out[len(out)-l.size:]
		for i := range row {
			row[i] += l.predict(tag, row, upper, i)
		}
		upper = row
	}
	return out, api.OK
}

func doRows(p api.Parms, tag int, b []byte) ([]byte, api.Errno) {
	l := layoutOf(p)
	if len(b)%l.size != 0 {
		return nil, api.ErrForm
	}
	if l.head == 0 {
		tag = tagBefore
	}
	var out []byte
	upper := make([]byte, l.size)
	for row := range slices.Chunk(b, l.size) {
		if l.head > 0 {
			out = append(out, byte(tag))
		}
		for i, x := range row {
			out = append(out, x-l.predict(tag, row, upper, i))
		}
		upper = row
	}
	return out, api.OK
}

// predict returns the prediction for byte i of a row. The bytes before it must
// be those that result.
func (l layout) predict(tag int, row, upper []byte, i int) byte {
	var a, c byte
	if i >= l.step {
		a, c = row[i-l.step], upper[i-l.step]
	}
	return l.table[tag](a, upper[i], c)
}
