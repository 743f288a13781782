package save

import (
	"cmp"
	"slices"

	"erasure/api"
)

// The keys of the dictionaries of a file.
const (
	keyBase      = "BaseFont"
	keyBits      = "BitsPerComponent"
	keyBox       = "MediaBox"
	keyContents  = "Contents"
	keyCount     = "Count"
	keyFilter    = "Filter"
	keyFont      = "Font"
	keyHeight    = "Height"
	keyKids      = "Kids"
	keyLength    = "Length"
	keyObject    = "XObject"
	keyPages     = "Pages"
	keyParent    = "Parent"
	keyResources = "Resources"
	keyRoot      = "Root"
	keySize      = "Size"
	keySpace     = "ColorSpace"
	keySubtype   = "Subtype"
	keyType      = "Type"
	keyUnicode   = "ToUnicode"
	keyWidth     = "Width"
)

// Names that stand there.
const (
	nameBase    = "Cut"
	nameCatalog = "Catalog"
	nameCMYK    = "DeviceCMYK"
	nameFlate   = "FlateDecode"
	nameGray    = "DeviceGray"
	nameImage   = "Image"
	nameObject  = "XObject"
	namePage    = "Page"
	namePages   = "Pages"
	nameRGB     = "DeviceRGB"
	nameType0   = "Type0"
)

// entry is a key of a dictionary, and what stands there.
type entry struct {
	key  string
	part api.Obj
}

// dictOf returns a dictionary of entries with different keys.
func dictOf(entries ...entry) api.Obj {
	l := slices.Clone(entries)
	slices.SortFunc(l, func(a, b entry) int { return cmp.Compare(a.key, b.key) })
	o := api.Obj{Kind: api.ObjDict}
	for _, x := range l {
		o.Keys = append(o.Keys, x.key)
		o.Parts = append(o.Parts, x.part)
	}
	return o
}

// entriesOf returns those of a dictionary.
func entriesOf(o api.Obj) []entry {
	var l []entry
	for i, part := range o.Parts {
		l = append(l, entry{o.Keys[i], part})
	}
	return l
}

func nameOf(t string) api.Obj {
	return api.Obj{Kind: api.ObjName, Text: t}
}

func numberOf(n int) api.Obj {
	return decimal(api.Dec{M: n})
}

func decimal(d api.Dec) api.Obj {
	return api.Obj{Kind: api.ObjNum, Num: d}
}

func listOf(l ...api.Obj) api.Obj {
	return api.Obj{Kind: api.ObjList, Parts: l}
}
