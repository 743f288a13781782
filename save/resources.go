package save

import (
	"erasure/api"
	"erasure/cmap"
	"erasure/font"
	"erasure/obj"
	"erasure/raster"
)

// levels is how deep the references within the dictionary of a font are followed: those of its values, of the parts of these, and of the parts of these.
const levels = 2

func (l *loader) fonts(resources api.Obj) ([]api.Named, api.Errno) {
	v, _ := obj.Get(resources, keyFont)
	dict, e := l.dictOrNone(v)
	if e != api.OK {
		return nil, e
	}
	var out []api.Named
	for _, x := range entriesOf(dict) {
		f, e := l.font(x.part)
		if e != api.OK {
			return nil, e
		}
		out = append(out, api.Named{Name: x.key, Font: f})
	}
	return out, api.OK
}

func (l *loader) font(o api.Obj) (api.Font, api.Errno) {
	dict, e := l.dict(o)
	if e != api.OK {
		return api.Font{}, e
	}
	var entries []entry
	for _, x := range entriesOf(dict) {
		if x.key == keyUnicode {
			continue
		}
		part, e := l.deep(x.part, levels)
		if e != api.OK {
			return api.Font{}, e
		}
		entries = append(entries, entry{x.key, part})
	}
	whole := dictOf(entries...)
	means, e := l.means(dict, whole)
	if e != api.OK {
		return api.Font{}, e
	}
	return font.Read(whole, means)
}

// means returns what the codes of a font mean, by its dictionary as it stands in the file, and by the same with references followed.
func (l *loader) means(dict, whole api.Obj) ([]api.Glyph, api.Errno) {
	v, found := obj.Get(dict, keyUnicode)
	if !found {
		return nil, api.OK
	}
	data, e := l.data(v)
	if e != api.OK {
		return nil, e
	}
	subtype, _ := obj.Get(whole, keySubtype)
	return cmap.Parse(data, isNamed(subtype, nameType0))
}

func (l *loader) pictures(resources api.Obj) ([]api.Picture, api.Errno) {
	v, _ := obj.Get(resources, keyObject)
	dict, e := l.dictOrNone(v)
	if e != api.OK {
		return nil, e
	}
	var out []api.Picture
	for _, x := range entriesOf(dict) {
		im, e := l.image(x.part)
		if e != api.OK {
			return nil, e
		}
		out = append(out, api.Picture{Name: x.key, Image: im})
	}
	return out, api.OK
}

// image loads the image of a stream.
func (l *loader) image(v api.Obj) (api.Image, api.Errno) {
	x, e := l.stream(v)
	if e != api.OK {
		return api.Image{}, e
	}
	if changesSamples(x.Obj) {
		return api.Image{}, api.ErrKind
	}
	var values []api.Obj
	for _, key := range []string{keySubtype, keySpace, keyWidth, keyHeight, keyBits} {
		o, e := l.at(x.Obj, key)
		if e != api.OK {
			return api.Image{}, e
		}
		values = append(values, o)
	}
	comps := 0
	if values[1].Kind == api.ObjName {
		comps = compsOf(values[1].Text)
	}
	if !isNamed(values[0], nameImage) || comps == 0 {
		return api.Image{}, api.ErrKind
	}
	data, e := l.f.Data(x, api.MaxBytes)
	if e != api.OK {
		return api.Image{}, e
	}
	return imageOf(values[2:], comps, data)
}

// imageOf returns the image of a width, a height and a number of bits.
func imageOf(sizes []api.Obj, comps int, data []byte) (api.Image, api.Errno) {
	for _, o := range sizes {
		if o.Kind != api.ObjNum || o.Num.S != 0 {
			return api.Image{}, api.ErrForm
		}
	}
	im := api.Image{Width: sizes[0].Num.M, Height: sizes[1].Num.M, Bits: sizes[2].Num.M, Comps: comps, Data: data}
	if raster.Check(im) != api.OK {
		return api.Image{}, api.ErrForm
	}
	return im, api.OK
}

// changesSamples tells whether what is seen of an image hangs on more than on its samples.
func changesSamples(dict api.Obj) bool {
	for _, key := range []string{"SMask", "Mask", "Decode", "ImageMask"} {
		if _, found := obj.Get(dict, key); found {
			return true
		}
	}
	return false
}

func isNamed(o api.Obj, name string) bool {
	return o.Kind == api.ObjName && o.Text == name
}
