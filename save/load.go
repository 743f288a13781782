package save

import (
	"erasure/api"
	"erasure/box"
	"erasure/file"
	"erasure/obj"
	"erasure/ops"
	"erasure/view"
)

const (
	maxTrees      = 4096
	maxReferences = 32 // that follow one another
)

// loader collects the pages of a file.
type loader struct {
	f     *file.File
	trees int // that were visited
	pages []api.Page
}

// tree is one of pages.
type tree struct {
	value     api.Obj
	depth     int     // of how many other trees it is a part
	box       api.Obj // what applies to it if it has none of its own
	resources api.Obj // likewise
}

func (l *loader) document() api.Errno {
	root, e := l.dictAt(l.f.Trailer(), keyRoot)
	if e != api.OK {
		return e
	}
	pages, _ := obj.Get(root, keyPages)
	return l.visit(tree{value: pages})
}

// visit loads the pages of a tree.
func (l *loader) visit(t tree) api.Errno {
	if t.depth == api.MaxDepth {
		return api.ErrDeep
	}
	if l.trees == maxTrees {
		return api.ErrLong
	}
	l.trees++
	dict, e := l.dict(t.value)
	if e != api.OK {
		return e
	}
	if v, found := obj.Get(dict, keyBox); found {
		t.box = v
	}
	if v, found := obj.Get(dict, keyResources); found {
		t.resources = v
	}
	if _, found := obj.Get(dict, keyKids); found {
		return l.visitKids(dict, t)
	}
	if len(l.pages) == maxPages {
		return api.ErrLong
	}
	p, e := l.page(dict, t)
	if e != api.OK {
		return e
	}
	l.pages = append(l.pages, p)
	return api.OK
}

func (l *loader) visitKids(dict api.Obj, t tree) api.Errno {
	kids, e := l.at(dict, keyKids)
	if e != api.OK {
		return e
	}
	if kids.Kind != api.ObjList {
		return api.ErrForm
	}
	t.depth++
	for _, o := range kids.Parts {
		t.value = o
		if e := l.visit(t); e != api.OK {
			return e
		}
	}
	return api.OK
}

// page loads a page from its dictionary, and from what applies to it.
func (l *loader) page(dict api.Obj, t tree) (api.Page, api.Errno) {
	b, e := l.rectangle(t.box)
	if e != api.OK {
		return api.Page{}, e
	}
	contents, _ := obj.Get(dict, keyContents)
	operators, e := l.operators(contents)
	if e != api.OK {
		return api.Page{}, e
	}
	resources, e := l.dictOrNone(t.resources)
	if e != api.OK {
		return api.Page{}, e
	}
	fonts, e := l.fonts(resources)
	if e != api.OK {
		return api.Page{}, e
	}
	pictures, e := l.pictures(resources)
	if e != api.OK {
		return api.Page{}, e
	}
	marks, e := view.See(operators, fonts)
	if e != api.OK {
		return api.Page{}, e
	}
	if !arePainted(marks, pictures) {
		return api.Page{}, api.ErrNone
	}
	p := api.Page{Box: b, Marks: marks, Fonts: fonts, Pictures: pictures}
	if !isPage(p) {
		return api.Page{}, api.ErrKind
	}
	return p, api.OK
}

// rectangle returns the box of four numbers.
func (l *loader) rectangle(o api.Obj) (api.Box, api.Errno) {
	o, e := l.deep(o, 1)
	if e != api.OK {
		return api.Box{}, e
	}
	n := o.Parts
	if o.Kind != api.ObjList || len(n) != 4 {
		return api.Box{}, api.ErrForm
	}
	for _, x := range n {
		if x.Kind != api.ObjNum {
			return api.Box{}, api.ErrForm
		}
	}
	b := api.Box{X0: n[0].Num, Y0: n[1].Num, X1: n[2].Num, Y1: n[3].Num}
	if box.Check(b) != api.OK {
		return api.Box{}, api.ErrForm
	}
	return b, api.OK
}

// operators returns those of the contents of a page, which are one stream or a list of streams.
func (l *loader) operators(contents api.Obj) ([]api.Op, api.Errno) {
	o, e := l.f.Resolve(contents)
	if e != api.OK {
		return nil, e
	}
	streams := []api.Obj{contents}
	switch o.Kind {
	case api.ObjNull:
		return nil, api.OK
	case api.ObjList:
		streams = o.Parts
	}
	var b []byte
	for _, o := range streams {
		data, e := l.data(o)
		if e != api.OK {
			return nil, e
		}
		b = append(append(b, data...), '\n')
	}
	return ops.Parse(b)
}
