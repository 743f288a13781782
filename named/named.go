// Package named holds what several layers know about lists of fonts by their
// names.
package named

import (
	"erasure/api"
	"erasure/font"
)

const maxFonts = 64

// Check tells whether a list of fonts is valid: its names are different, there
// are not too many, and all fonts are valid.
func Check(l []api.Named) api.Errno {
	if len(l) > maxFonts {
		return api.ErrArg
	}
	for i, x := range l {
		if _, twice := Find(l[:i], x.Name); twice {
			return api.ErrArg
		}
		if e := font.Check(x.Font); e != api.OK {
			return e
		}
	}
	return api.OK
}

// Find returns the first font of a name, and whether there is one.
func Find(l []api.Named, name string) (api.Font, bool) {
	for _, x := range l {
		if x.Name == name {
			return x.Font, true
		}
	}
	return api.Font{}, false
}
