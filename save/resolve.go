package save

import (
	"slices"

	"erasure/api"
	"erasure/obj"
)

// at returns what stands at a key of a dictionary, with references followed.
func (l *loader) at(dict api.Obj, key string) (api.Obj, api.Errno) {
	v, _ := obj.Get(dict, key)
	return l.f.Resolve(v)
}

// dict returns a dictionary, with references followed.
func (l *loader) dict(o api.Obj) (api.Obj, api.Errno) {
	o, e := l.f.Resolve(o)
	if e != api.OK {
		return api.Obj{}, e
	}
	if o.Kind != api.ObjDict {
		return api.Obj{}, api.ErrForm
	}
	return o, api.OK
}

func (l *loader) dictAt(dict api.Obj, key string) (api.Obj, api.Errno) {
	v, _ := obj.Get(dict, key)
	return l.dict(v)
}

// dictOrNone returns a dictionary, an empty one if there is null.
func (l *loader) dictOrNone(o api.Obj) (api.Obj, api.Errno) {
	o, e := l.f.Resolve(o)
	if e == api.OK && o.Kind == api.ObjNull {
		return dictOf(), api.OK
	}
	if e != api.OK {
		return api.Obj{}, e
	}
	return l.dict(o)
}

// deep returns an object with references followed, also those of its parts, and of the parts of these, so many levels deep.
func (l *loader) deep(o api.Obj, levels int) (api.Obj, api.Errno) {
	o, e := l.f.Resolve(o)
	if e != api.OK || levels == 0 {
		return o, e
	}
	o.Parts = slices.Clone(o.Parts)
	for i, part := range o.Parts {
		part, e := l.deep(part, levels-1)
		if e != api.OK {
			return api.Obj{}, e
		}
		o.Parts[i] = part
	}
	return o, api.OK
}

// stream returns the stream to which a value refers.
func (l *loader) stream(v api.Obj) (api.Item, api.Errno) {
	for n := 0; v.Kind == api.ObjRef; n++ {
		if n == maxReferences {
			return api.Item{}, api.ErrDeep
		}
		x, e := l.f.Get(v.Ref)
		switch {
		case e == api.ErrNone:
			return api.Item{}, api.ErrForm
		case e != api.OK || x.Stream:
			return x, e
		}
		v = x.Obj
	}
	return api.Item{}, api.ErrForm
}

// data returns the decoded bytes of the stream to which a value refers.
func (l *loader) data(v api.Obj) ([]byte, api.Errno) {
	x, e := l.stream(v)
	if e != api.OK {
		return nil, e
	}
	return l.f.Data(x, api.MaxBytes)
}
