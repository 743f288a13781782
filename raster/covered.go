package raster

import (
	"slices"

	"erasure/api"
	"erasure/box"
	"erasure/dec"
	"erasure/matrix"
)

// Covered tells for each pixel, row by row, whether it meets one of the regions.
func Covered(m api.Mat, width int, height int, regions []api.Box) ([]bool, api.Errno) {
	if !isSize(width, height) || matrix.Check(m) != api.OK {
		return nil, api.ErrArg
	}
	for _, b := range regions {
		if e := box.Check(b); e != api.OK {
			return nil, e
		}
	}
	s := scaler{}
	g := s.grid(m, width, height)
	var large []api.Box
	for _, b := range regions {
		large = append(large, s.box(b, width*height))
	}
	if s.e != api.OK {
		return nil, s.e
	}
	return g.covered(large), api.OK
}

// grid holds the corners of all pixels, row by row from the lowest one, with coordinates that are width * height times as great as they are.
type grid struct {
	width, height int
	points        []api.Point
}

// covered tells which pixels meet one of the regions.
func (g grid) covered(regions []api.Box) []bool {
	out := make([]bool, g.width*g.height)
	near := meeting(g.points, regions)
	if len(near) == 0 {
		return out
	}
	for i := range out {
		corners := g.corners(i%g.width, g.height-1-i/g.width)
		around, _ := box.Of(corners[:])
		out[i] = slices.ContainsFunc(near, func(b api.Box) bool { return meets(around, b) })
	}
	return out
}

// corners returns those of the pixel in column x of the row that is z above the lowest one.
func (g grid) corners(x, z int) [4]api.Point {
	low, high := z*(g.width+1)+x, (z+1)*(g.width+1)+x
	return [4]api.Point{g.points[low], g.points[low+1], g.points[high], g.points[high+1]}
}

// meeting returns the regions that meet the box around points. No pixel meets another one.
func meeting(points []api.Point, regions []api.Box) []api.Box {
	around, _ := box.Of(points)
	var l []api.Box
	for _, b := range regions {
		if meets(around, b) {
			l = append(l, b)
		}
	}
	return l
}

// meets tells whether two boxes that are valid meet.
func meets(a, b api.Box) bool {
	yes, e := box.Meets(a, b)
	return yes && e == api.OK
}

// scaler computes with multiples, and keeps its first error.
type scaler struct {
	e api.Errno
}

func (s *scaler) keep(e api.Errno) {
	if s.e == api.OK {
		s.e = e
	}
}

func (s *scaler) times(d api.Dec, n int) api.Dec {
	out, e := dec.Mul(d, api.Dec{M: n})
	s.keep(e)
	return out
}

// sum returns (a + b) + c.
func (s *scaler) sum(a, b, c api.Dec) api.Dec {
	both, e := dec.Add(a, b)
	s.keep(e)
	out, e := dec.Add(both, c)
	s.keep(e)
	return out
}

func (s *scaler) box(b api.Box, n int) api.Box {
	return api.Box{X0: s.times(b.X0, n), Y0: s.times(b.Y0, n), X1: s.times(b.X1, n), Y1: s.times(b.Y1, n)}
}

func (s *scaler) grid(m api.Mat, width, height int) grid {
	g := grid{width: width, height: height}
	lastX, lastY := s.times(m.E, width*height), s.times(m.F, width*height)
	for z := range height + 1 {
		upX, upY := s.times(m.C, z*width), s.times(m.D, z*width)
		for x := range width + 1 {
			p := api.Point{X: s.sum(s.times(m.A, x*height), upX, lastX), Y: s.sum(s.times(m.B, x*height), upY, lastY)}
			g.points = append(g.points, p)
		}
	}
	return g
}
