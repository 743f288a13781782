package session

import (
	"slices"
	"strconv"
	"strings"

	"erasure/api"
	"erasure/cut"
	"erasure/emit"
	"erasure/named"
	"erasure/raster"
)

const (
	maxPictures = 1024
	digits      = 4 // of a name, at least
)

// redactor builds the redacted page of a page.
type redactor struct {
	boxes    []api.Box
	pictures []api.Picture     // of the page
	fonts    []api.Named       // of the page, with the codes that are left
	names    map[string]naming // of the fonts, by those that they have on the page
	out      api.Page
}

// naming is the new name of a font.
type naming struct {
	name string
}

// redact returns the redacted page of a page that is valid, by regions that are valid.
func redact(p api.Page, boxes []api.Box, covers bool) (api.Page, api.Errno) {
	left, e := cut.Cut(p.Marks, boxes)
	if e != api.OK {
		return api.Page{}, e
	}
	fonts, e := cut.Fonts(p.Fonts, left)
	if e != api.OK {
		return api.Page{}, e
	}
	r := &redactor{boxes: boxes, pictures: p.Pictures, fonts: fonts, names: map[string]naming{}, out: api.Page{Box: p.Box}}
	for _, m := range left {
		if e := r.keep(m); e != api.OK {
			return api.Page{}, e
		}
	}
	if covers {
		e = r.cover()
	}
	if e != api.OK {
		return api.Page{}, e
	}
	return r.out, api.OK
}

// keep adds a mark that is left, with what it needs.
func (r *redactor) keep(m api.Mark) api.Errno {
	m.Ops, m.State = copies(m.Ops), copies(m.State)
	switch {
	case m.Kind == api.MarkGlyph:
		m.Name = r.font(m.Name)
	case m.Kind == api.MarkImage && m.Name != "":
		name, e := r.picture(m)
		if e != api.OK {
			return e
		}
		m.Name = name
	}
	r.out.Marks = append(r.out.Marks, m)
	return api.OK
}

// font returns the new name of a font, which is added when it is first used.
func (r *redactor) font(name string) string {
	if x, found := r.names[name]; found {
		return x.name
	}
	f, _ := named.Find(r.fonts, name)
	x := naming{numbered("F", len(r.out.Fonts)+1)}
	r.out.Fonts = append(r.out.Fonts, api.Named{Name: x.name, Font: f})
	r.names[name] = x
	return x.name
}

// picture adds a picture for an image, without what is covered, and returns its name.
func (r *redactor) picture(m api.Mark) (string, api.Errno) {
	i := slices.IndexFunc(r.pictures, func(x api.Picture) bool { return x.Name == m.Name })
	if i < 0 {
		return "", api.ErrArg
	}
	im := r.pictures[i].Image
	covered, e := raster.Covered(m.M, im.Width, im.Height, r.boxes)
	if e != api.OK {
		return "", e
	}
	im, e = raster.Blank(im, covered)
	if e != api.OK {
		return "", e
	}
	if len(r.out.Pictures) == maxPictures {
		return "", api.ErrLong
	}
	name := numbered("I", len(r.out.Pictures)+1)
	r.out.Pictures = append(r.out.Pictures, api.Picture{Name: name, Image: im})
	return name, api.OK
}

// cover adds a mark for each region.
func (r *redactor) cover() api.Errno {
	failed := api.OK
covering:
	for _, b := range r.boxes {
		m, e := emit.Cover(b)
		if e != api.OK {
			failed = e
			break covering
		}
		r.out.Marks = append(r.out.Marks, m)
	}
	return failed
}

// numbered returns a name that ends in a number.
func numbered(kind string, n int) string {
	t := strconv.Itoa(n)
	return kind + strings.Repeat("0", max(digits-len(t), 0)) + t
}

// copies returns operators with lists of their own, so that a page that is changed changes no other one.
func copies(l []api.Op) []api.Op {
	var out []api.Op
	for _, o := range l {
		out = append(out, api.Op{Name: o.Name, Args: slices.Clone(o.Args)})
	}
	return out
}
