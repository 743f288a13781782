package view

import (
	"erasure/api"
	"erasure/box"
	"erasure/dec"
	"erasure/matrix"
)

// glyphBox returns the box of a glyph whose width is told in thousandths.
func glyphBox(m api.Mat, width int) (api.Box, api.Errno) {
	wide, e := dec.Make(width, 3)
	if e != api.OK {
		return api.Box{}, e
	}
	return box.Map(m, api.Box{Y0: api.Dec{M: -3, S: 1}, X1: wide, Y1: api.Dec{M: 1}})
}

func imageBox(m api.Mat) (api.Box, api.Errno) {
	return box.Map(m, api.Box{X1: api.Dec{M: 1}, Y1: api.Dec{M: 1}})
}

// pathBox returns the box of the points of a path.
func pathBox(m api.Mat, path []api.Op) (api.Box, api.Errno) {
	var all []api.Point
	for _, o := range path {
		l, e := points(o)
		if e != api.OK {
			return api.Box{}, e
		}
		for _, p := range l {
			p, e := matrix.Map(m, p)
			if e != api.OK {
				return api.Box{}, e
			}
			all = append(all, p)
		}
	}
	return box.Of(all)
}

// points returns the points of an operator of a path.
func points(o api.Op) ([]api.Point, api.Errno) {
	n := numbers(o.Args)
	if o.Name == opRect {
		return corners(n[0], n[1], n[2], n[3])
	}
	var l []api.Point
	for ; len(n) > 1; n = n[2:] {
		l = append(l, api.Point{X: n[0], Y: n[1]})
	}
	return l, api.OK
}

// corners returns those of a rectangle.
func corners(x, y, width, height api.Dec) ([]api.Point, api.Errno) {
	var c calculator
	right, top := c.add(x, width), c.add(y, height)
	return []api.Point{{X: x, Y: y}, {X: right, Y: y}, {X: x, Y: top}, {X: right, Y: top}}, c.e
}
