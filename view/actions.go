package view

import (
	"slices"

	"erasure/api"
)

// place tells where an operator is allowed.
type place int

const (
	nowhere place = iota
	anywhere
	notInPath
	alone     // neither within a text object nor within a path
	inText    // within a text object
	pathBegin // not within a text object
	pathStep  // within a path, as those that follow
	pathPaint
	pathDrop
)

const opRect = "re"

// Kinds of operands.
const (
	aNumber  = 'n'
	aString  = 's'
	aName    = '/'
	aNumbers = 'd' // a list of numbers
	aLine    = 'l' // a list of strings and numbers
	anObject = 'o'
)

// action is what an operator does: where, with which operands, and how.
type action struct {
	name     string
	place    place
	operands string
	run      func(*painter, api.Op) api.Errno
}

// actions returns all of them.
func actions() []action {
	return slices.Concat(pathActions(), textActions(), otherActions())
}

// find returns the action of a name, and whether there is one.
func find(table []action, name string) (action, bool) {
	for _, a := range table {
		if a.name == name {
			return a, true
		}
	}
	return action{}, false
}

func otherActions() []action {
	return []action{
		{"q", alone, "", (*painter).save},
		{"Q", alone, "", (*painter).restore},
		{"cm", alone, "nnnnnn", (*painter).transform},

		{"w", notInPath, "n", (*painter).set},
		{"i", notInPath, "n", (*painter).set},
		{"M", notInPath, "n", (*painter).set},
		{"J", notInPath, "n", (*painter).set},
		{"j", notInPath, "n", (*painter).set},
		{"g", notInPath, "n", (*painter).set},
		{"G", notInPath, "n", (*painter).set},
		{"rg", notInPath, "nnn", (*painter).set},
		{"RG", notInPath, "nnn", (*painter).set},
		{"k", notInPath, "nnnn", (*painter).set},
		{"K", notInPath, "nnnn", (*painter).set},
		{"d", notInPath, "dn", (*painter).set},
		{"ri", notInPath, "/", (*painter).set},

		{"Do", alone, "/", (*painter).image},
		{"BI", alone, "oo", (*painter).inlineImage},

		{"BMC", anywhere, "/", (*painter).ignore},
		{"MP", anywhere, "/", (*painter).ignore},
		{"BDC", anywhere, "/o", (*painter).ignore},
		{"DP", anywhere, "/o", (*painter).ignore},
		{"EMC", anywhere, "", (*painter).ignore},
	}
}

func pathActions() []action {
	return []action{
		{"m", pathBegin, "nn", (*painter).draw},
		{opRect, pathBegin, "nnnn", (*painter).draw},
		{"l", pathStep, "nn", (*painter).draw},
		{"c", pathStep, "nnnnnn", (*painter).draw},
		{"v", pathStep, "nnnn", (*painter).draw},
		{"y", pathStep, "nnnn", (*painter).draw},
		{"h", pathStep, "", (*painter).draw},

		{"S", pathPaint, "", (*painter).paint},
		{"s", pathPaint, "", (*painter).paint},
		{"f", pathPaint, "", (*painter).paint},
		{"F", pathPaint, "", (*painter).paint},
		{"f*", pathPaint, "", (*painter).paint},
		{"B", pathPaint, "", (*painter).paint},
		{"B*", pathPaint, "", (*painter).paint},
		{"b", pathPaint, "", (*painter).paint},
		{"b*", pathPaint, "", (*painter).paint},
		{"n", pathDrop, "", (*painter).drop},
	}
}

func textActions() []action {
	return []action{
		{"BT", alone, "", (*painter).beginText},
		{"ET", inText, "", (*painter).endText},
		{"Tc", notInPath, "n", (*painter).setChar},
		{"Tw", notInPath, "n", (*painter).setWord},
		{"Tz", notInPath, "n", (*painter).setScale},
		{"TL", notInPath, "n", (*painter).setLead},
		{"Ts", notInPath, "n", (*painter).setRise},
		{"Tr", notInPath, "n", (*painter).setMode},
		{"Tf", notInPath, "/n", (*painter).setFont},
		{"Td", inText, "nn", (*painter).moveLine},
		{"TD", inText, "nn", (*painter).leadLine},
		{"Tm", inText, "nnnnnn", (*painter).placeText},
		{"T*", inText, "", (*painter).nextLine},
		{"Tj", inText, "s", (*painter).showText},
		{"'", inText, "s", (*painter).showLine},
		{"\"", inText, "nns", (*painter).showSpaced},
		{"TJ", inText, "l", (*painter).showParts},
	}
}

// fit tells whether args are of so many operands, each of its kind.
func fit(args []api.Obj, operands string) bool {
	if len(args) != len(operands) {
		return false
	}
	for i, a := range args {
		if !isOperand(a, operands[i]) {
			return false
		}
	}
	return true
}

func isOperand(o api.Obj, kind byte) bool {
	switch kind {
	case aNumber:
		return isNumber(o)
	case aString:
		return o.Kind == api.ObjText
	case aName:
		return o.Kind == api.ObjName
	case aNumbers:
		return o.Kind == api.ObjList && all(o.Parts, isNumber)
	case aLine:
		return o.Kind == api.ObjList && all(o.Parts, isShown)
	}
	return kind == anObject
}

func all(l []api.Obj, is func(api.Obj) bool) bool {
	return !slices.ContainsFunc(l, func(o api.Obj) bool { return !is(o) })
}

func isNumber(o api.Obj) bool {
	return o.Kind == api.ObjNum
}

func isShown(o api.Obj) bool {
	return o.Kind == api.ObjText || o.Kind == api.ObjNum
}

// numbers returns those of operands.
func numbers(args []api.Obj) []api.Dec {
	var l []api.Dec
	for _, a := range args {
		l = append(l, a.Num)
	}
	return l
}

// matrixOf returns the matrix of six operands.
func matrixOf(args []api.Obj) api.Mat {
	n := numbers(args)
	return api.Mat{A: n[0], B: n[1], C: n[2], D: n[3], E: n[4], F: n[5]}
}
