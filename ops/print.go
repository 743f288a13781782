package ops

import (
	"strings"

	"erasure/api"
	"erasure/lex"
	"erasure/obj"
)

const newline = "\n"

// Print returns operators as a content, each on a line of its own.
func Print(l []api.Op) (string, api.Errno) {
	if len(l) > maxOps {
		return "", api.ErrArg
	}
	for _, o := range l {
		if e := Check(o); e != api.OK {
			return "", e
		}
	}
	var out strings.Builder
	for _, o := range l {
		if o.Name == wordImage && endOfImage([]byte(o.Args[1].Text)) >= 0 {
			return "", api.ErrForm
		}
		out.WriteString(line(o))
	}
	return out.String(), api.OK
}

// line prints an operator that is valid, so that there is nothing in it that cannot be printed.
func line(o api.Op) string {
	if o.Name == wordImage {
		return imageLine(o.Args[0], o.Args[1].Text)
	}
	var words []string
	for _, a := range o.Args {
		words = append(words, printed(a))
	}
	return strings.Join(append(words, o.Name), " ") + newline
}

func imageLine(dict api.Obj, data string) string {
	words := []string{wordImage}
	for i, part := range dict.Parts {
		words = append(words, printedName(dict.Keys[i]), printed(part))
	}
	words = append(words, wordData, data)
	return strings.Join(words, " ") + newline + wordEnd + newline
}

func printed(o api.Obj) string {
	text, _ := obj.Print(o)
	return text
}

func printedName(t string) string {
	text, _ := lex.Print(api.Tok{Kind: api.TokName, Text: t})
	return text
}
