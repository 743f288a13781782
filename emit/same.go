package emit

import (
	"slices"

	"erasure/api"
)

// same tells whether two marks are the same. A list without elements may be nil in one of them.
func same(a, b api.Mark) bool {
	return a.Kind == b.Kind && a.M == b.M && a.Name == b.Name && a.Code == b.Code && a.Box == b.Box &&
		slices.EqualFunc(a.Ops, b.Ops, sameOp) && slices.EqualFunc(a.State, b.State, sameOp)
}

func sameOp(a, b api.Op) bool {
	return a.Name == b.Name && slices.EqualFunc(a.Args, b.Args, sameObj)
}

func sameObj(a, b api.Obj) bool {
	return a.Kind == b.Kind && a.Bool == b.Bool && a.Num == b.Num && a.Text == b.Text && a.Ref == b.Ref &&
		slices.Equal(a.Keys, b.Keys) && slices.EqualFunc(a.Parts, b.Parts, sameObj)
}
