package obj

import (
	"strings"

	"erasure/api"
	"erasure/lex"
)

const (
	wordNull  = "null"
	wordTrue  = "true"
	wordFalse = "false"
	wordRef   = "R"
)

// Print returns the tokens of o, with a blank between one and the next.
func Print(o api.Obj) (string, api.Errno) {
	if e := Check(o); e != api.OK {
		return "", e
	}
	p := &printer{}
	visit(o, p, (*printer).add)
	return strings.Join(p.texts, " "), api.OK
}

// printer collects the texts of tokens.
type printer struct {
	texts []string
}

// add adds a token of a valid object: there is none that cannot be printed.
func (p *printer) add(t api.Tok) {
	text, _ := lex.Print(t)
	p.texts = append(p.texts, text)
}

// visit gives all tokens of o to p, in their order.
func visit(o api.Obj, p *printer, add func(*printer, api.Tok)) {
	switch o.Kind {
	case api.ObjNull:
		add(p, word(wordNull))
	case api.ObjBool:
		add(p, word(boolWord(o.Bool)))
	case api.ObjNum:
		add(p, api.Tok{Kind: api.TokNum, Num: o.Num})
	case api.ObjName:
		add(p, name(o.Text))
	case api.ObjText:
		add(p, api.Tok{Kind: api.TokText, Text: o.Text})
	case api.ObjList:
		visitList(o, p, add)
	case api.ObjDict:
		visitDict(o, p, add)
	case api.ObjRef:
		add(p, whole(o.Ref))
		add(p, whole(0))
		add(p, word(wordRef))
	}
}

func visitList(o api.Obj, p *printer, add func(*printer, api.Tok)) {
	add(p, api.Tok{Kind: api.TokList})
	for _, part := range o.Parts {
		visit(part, p, add)
	}
	add(p, api.Tok{Kind: api.TokShut})
}

func visitDict(o api.Obj, p *printer, add func(*printer, api.Tok)) {
	add(p, api.Tok{Kind: api.TokDict})
	for i, part := range o.Parts {
		add(p, name(o.Keys[i]))
		visit(part, p, add)
	}
	add(p, api.Tok{Kind: api.TokClose})
}

func boolWord(b bool) string {
	if b {
		return wordTrue
	}
	return wordFalse
}

func word(t string) api.Tok {
	return api.Tok{Kind: api.TokWord, Text: t}
}

func name(t string) api.Tok {
	return api.Tok{Kind: api.TokName, Text: t}
}

func whole(n int) api.Tok {
	return api.Tok{Kind: api.TokNum, Num: api.Dec{M: n}}
}
