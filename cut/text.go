package cut

import (
	"strings"

	"erasure/api"
	"erasure/box"
	"erasure/cmap"
	"erasure/font"
	"erasure/named"
)

// piece is the text of a glyph, which ends at an offset of the whole text.
type piece struct {
	text string
	end  int
	box  api.Box
}

// Text returns the text of all glyphs.
func Text(l []api.Mark, fonts []api.Named) (string, api.Errno) {
	pieces, e := read(l, fonts)
	if e != api.OK {
		return "", e
	}
	return join(pieces), api.OK
}

// Find returns the boxes in which the occurrences of a text lie.
func Find(l []api.Mark, fonts []api.Named, text string) ([]api.Box, api.Errno) {
	if text == "" {
		return nil, api.ErrArg
	}
	pieces, e := read(l, fonts)
	if e != api.OK {
		return nil, e
	}
	var out []api.Box
	whole, at := join(pieces), 0
finding:
	for {
		i := strings.Index(whole[at:], text)
		if i < 0 {
			break finding
		}
		from := at + i
		at = from + len(text)
		pieces = behind(pieces, from)
		b, e := around(pieces, at)
		if e != api.OK {
			return nil, e
		}
		out = append(out, b)
	}
	return out, api.OK
}

// read returns the texts of all glyphs.
func read(l []api.Mark, fonts []api.Named) ([]piece, api.Errno) {
	if e := check(fonts, l); e != api.OK {
		return nil, e
	}
	var pieces []piece
	end := 0
	for _, m := range l {
		if m.Kind != api.MarkGlyph {
			continue
		}
		f, _ := named.Find(fonts, m.Name)
		t, e := cmap.Text(font.Find(f, m.Code).Text)
		if e != api.OK {
			return nil, e
		}
		end += len(t)
		pieces = append(pieces, piece{text: t, end: end, box: m.Box})
	}
	return pieces, api.OK
}

func join(pieces []piece) string {
	var out strings.Builder
	for _, p := range pieces {
		out.WriteString(p.text)
	}
	return out.String()
}

// behind returns the pieces from that one on that has a byte behind an offset.
func behind(pieces []piece, from int) []piece {
	for len(pieces) > 0 && pieces[0].end <= from {
		pieces = pieces[1:]
	}
	return pieces
}

// around returns the smallest box around those pieces, from the first one on, that have a byte ahead of an offset.
func around(pieces []piece, to int) (api.Box, api.Errno) {
	b := pieces[0].box
	for _, p := range pieces {
		if p.end-len(p.text) >= to {
			break
		}
		if p.text == "" {
			continue
		}
		both, e := box.Both(b, p.box)
		if e != api.OK {
			return api.Box{}, e
		}
		b = both
	}
	return b, api.OK
}
