package save

import (
	"cmp"
	"slices"

	"erasure/api"
	"erasure/box"
	"erasure/emit"
	"erasure/font"
	"erasure/named"
	"erasure/obj"
	"erasure/raster"
)

// isPage tells whether a page is valid.
func isPage(p api.Page) bool {
	if box.Check(p.Box) != api.OK || !areFonts(p.Fonts) || !arePictures(p.Pictures) {
		return false
	}
	_, e := emit.Emit(p.Marks, p.Fonts)
	return e == api.OK && arePainted(p.Marks, p.Pictures)
}

func areFonts(l []api.Named) bool {
	if named.Check(l) != api.OK {
		return false
	}
	for i, x := range l {
		_, _, e := font.Write(x.Font)
		if e != api.OK || !isName(x.Name) || i > 0 && l[i-1].Name >= x.Name {
			return false
		}
	}
	return true
}

func arePictures(l []api.Picture) bool {
	if len(l) > maxPictures {
		return false
	}
	for i, x := range l {
		if raster.Check(x.Image) != api.OK || colorSpace(x.Image.Comps) == "" || !isName(x.Name) || i > 0 && l[i-1].Name >= x.Name {
			return false
		}
	}
	return true
}

// isName tells whether a name may stand in a dictionary, and is not empty.
func isName(t string) bool {
	return t != "" && obj.Check(nameOf(t)) == api.OK
}

// arePainted tells whether there is a picture for the name of each image mark.
func arePainted(l []api.Mark, pictures []api.Picture) bool {
	for _, m := range l {
		if m.Kind == api.MarkImage && m.Name != "" && !hasPicture(pictures, m.Name) {
			return false
		}
	}
	return true
}

// hasPicture tells whether there is a picture of a name, among pictures in the order of their names.
func hasPicture(l []api.Picture, name string) bool {
	_, found := slices.BinarySearchFunc(l, name, func(x api.Picture, name string) int { return cmp.Compare(x.Name, name) })
	return found
}

// colorSpace returns the name for a number of components, or nothing.
func colorSpace(comps int) string {
	switch comps {
	case 1:
		return nameGray
	case 3:
		return nameRGB
	case 4:
		return nameCMYK
	}
	return ""
}

// compsOf returns the number of components for a name, or 0.
func compsOf(space string) int {
	switch space {
	case nameGray:
		return 1
	case nameRGB:
		return 3
	case nameCMYK:
		return 4
	}
	return 0
}
