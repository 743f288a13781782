package file

import (
	"erasure/api"
	"erasure/chain"
	"erasure/obj"
)

const (
	keyFilter = "Filter"
	keyParms  = "DecodeParms"
	keyEarly  = "EarlyChange"
)

const noPredictor = 1

// Data returns the bytes of a stream as they were ahead of its filters, if these are at most most.
func (f *File) Data(x api.Item, most int) ([]byte, api.Errno) {
	if f == nil {
		return nil, api.ErrNil
	}
	if !x.Stream || most < 0 || most > api.MaxBytes {
		return nil, api.ErrArg
	}
	l, e := f.filters(x.Obj)
	if e != api.OK {
		return nil, e
	}
	return chain.Undo(l, x.Data, most)
}

// filters returns the filters that the dictionary of a stream names.
func (f *File) filters(dict api.Obj) ([]api.Filter, api.Errno) {
	names, e := f.several(dict, keyFilter)
	if e != api.OK {
		return nil, e
	}
	var l []api.Filter
	for _, o := range names {
		if o.Kind != api.ObjName {
			return nil, api.ErrForm
		}
		l = append(l, api.Filter{Name: o.Text})
	}
	parms, e := f.several(dict, keyParms)
	if e != api.OK {
		return nil, e
	}
	if parms == nil {
		return l, api.OK
	}
	if len(parms) != len(l) {
		return nil, api.ErrForm
	}
	for i, o := range parms {
		p, e := f.parms(o)
		if e != api.OK {
			return nil, e
		}
		l[i].Parms = p
	}
	return l, api.OK
}

// several returns the parts of a list at a key, or a single object, or nil if there is null.
func (f *File) several(dict api.Obj, key string) ([]api.Obj, api.Errno) {
	o, e := f.at(dict, key)
	if e != api.OK {
		return nil, e
	}
	switch o.Kind {
	case api.ObjNull:
		return nil, api.OK
	case api.ObjList:
		return f.resolveAll(o.Parts)
	}
	return []api.Obj{o}, api.OK
}

// resolveAll returns a list that is not nil, even if it is empty.
func (f *File) resolveAll(l []api.Obj) ([]api.Obj, api.Errno) {
	out := []api.Obj{}
	for _, o := range l {
		o, e := f.Resolve(o)
		if e != api.OK {
			return nil, e
		}
		out = append(out, o)
	}
	return out, api.OK
}

// parms returns the parameters of a filter; none if they have no effect.
func (f *File) parms(o api.Obj) (api.Parms, api.Errno) {
	if o.Kind == api.ObjNull {
		return api.Parms{}, api.OK
	}
	if o.Kind != api.ObjDict {
		return api.Parms{}, api.ErrForm
	}
	p := api.Parms{Predictor: noPredictor, Colors: 1, Bits: 8, Columns: 1}
	for _, x := range []struct {
		key string
		to  *int
	}{{"Predictor", &p.Predictor}, {"Colors", &p.Colors}, {"BitsPerComponent", &p.Bits}, {"Columns", &p.Columns}} {
		if e := f.change(x.to, o, x.key); e != api.OK {
			return api.Parms{}, e
		}
	}
	early, e := f.at(o, keyEarly)
	if e != api.OK {
		return api.Parms{}, e
	}
	if n, ok := integerOf(early); early.Kind != api.ObjNull && (!ok || n != 1) {
		return api.Parms{}, api.ErrKind
	}
	if p.Predictor == noPredictor {
		return api.Parms{}, api.OK
	}
	return p, api.OK
}

// change sets a number to the integer at a key, if there is something.
func (f *File) change(to *int, dict api.Obj, key string) api.Errno {
	o, e := f.at(dict, key)
	if e != api.OK || o.Kind == api.ObjNull {
		return e
	}
	n, ok := integerOf(o)
	if !ok {
		return api.ErrForm
	}
	*to = n
	return api.OK
}

// at returns what stands at a key, with references followed.
func (f *File) at(dict api.Obj, key string) (api.Obj, api.Errno) {
	o, _ := obj.Get(dict, key)
	return f.Resolve(o)
}
