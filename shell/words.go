package shell

import (
	"strings"

	"erasure/api"
	"erasure/dec"
)

const (
	blank     = " "
	maxDigits = 9 // of a whole number
	hexDigits = "0123456789abcdef"
)

// wrongWord is what ends a line that doesn't have the form of its command.
type wrongWord struct{}

// words are those of a line that were not read yet.
type words struct {
	rest string
}

// need ends the line if what its form asks for does not hold.
func (w *words) need(holds bool) {
	if !holds {
		panic(wrongWord{})
	}
}

// peek returns the next word, or nothing if there is none.
func (w *words) peek() string {
	word, _, _ := strings.Cut(strings.TrimLeft(w.rest, blank), blank)
	return word
}

// next reads a word.
func (w *words) next() string {
	word := w.peek()
	w.need(word != "")
	w.rest = strings.TrimLeft(w.rest, blank)[len(word):]
	return word
}

// end asks that there are no more words.
func (w *words) end() {
	w.need(w.peek() == "")
}

// line reads what follows a word and one blank.
func (w *words) line() string {
	return strings.TrimPrefix(w.rest, blank)
}

func (w *words) whole() int {
	word := w.next()
	w.need(len(word) <= maxDigits)
	n := 0
	for k := range len(word) {
		w.need('0' <= word[k] && word[k] <= '9')
		n = n*10 + int(word[k]-'0')
	}
	return n
}

func (w *words) decimal() api.Dec {
	d, e := dec.Parse(w.next())
	w.need(e == api.OK)
	return d
}

func (w *words) box() api.Box {
	var b api.Box
	b.X0, b.Y0 = w.decimal(), w.decimal()
	b.X1, b.Y1 = w.decimal(), w.decimal()
	return b
}

// escaped returns bytes as a word.
func escaped(t string) string {
	if t == "" {
		return "-"
	}
	var out []byte
	for k := range len(t) {
		c := t[k]
		if '!' <= c && c <= '~' && c != '%' {
			out = append(out, c)
		} else {
			out = append(out, '%', hexDigits[c/16], hexDigits[c%16])
		}
	}
	return string(out)
}
