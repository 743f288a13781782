package xref

import (
	"strconv"
	"strings"

	"erasure/api"
	"erasure/obj"
)

const (
	atDigits   = 10
	secondUsed = "00000"
	secondFree = "65535"
	newline    = "\n"
)

// Print returns a table of ordered entries and a trailer.
func Print(l []api.Entry, trailer api.Obj) (string, api.Errno) {
	if len(l) > maxEntries || !ordered(l) {
		return "", api.ErrArg
	}
	dict, e := obj.Print(trailer)
	if e != api.OK {
		return "", e
	}
	if trailer.Kind != api.ObjDict {
		return "", api.ErrArg
	}
	var out strings.Builder
	out.WriteString(wordTable + newline)
	for len(l) > 0 {
		n := run(l)
		out.WriteString(line(strconv.Itoa(l[0].Id), strconv.Itoa(n)))
		for _, x := range l[:n] {
			out.WriteString(entryLine(x))
		}
		l = l[n:]
	}
	out.WriteString(wordTrailer + newline + dict + newline)
	return out.String(), api.OK
}

// run returns how many entries of consecutive Ids l begins with.
func run(l []api.Entry) int {
	n := 1
	for n < len(l) && l[n].Id == l[0].Id+n {
		n++
	}
	return n
}

func entryLine(x api.Entry) string {
	at := strconv.Itoa(x.At)
	at = strings.Repeat("0", atDigits-len(at)) + at
	// The empty part stands for the blank at the end of the line.
	if x.Used {
		return line(at, secondUsed, wordUsed, "")
	}
	return line(at, secondFree, wordFree, "")
}

func line(parts ...string) string {
	return strings.Join(parts, " ") + newline
}
