package raster_test

import (
	"math"
	"math/big"
	"math/rand"
	"slices"
	"strings"
	"testing"

	"erasure/api"
	"erasure/box"
	"erasure/dec"
	"erasure/raster"
)

// decs returns numerals that are separated by blanks.
func decs(t *testing.T, s string) []api.Dec {
	t.Helper()
	var l []api.Dec
	for _, w := range strings.Fields(s) {
		d, e := dec.Parse(w)
		if e != api.OK {
			t.Fatalf("P1.2: %q: %d", w, e)
		}
		l = append(l, d)
	}
	return l
}

func matrix(t *testing.T, s string) api.Mat {
	t.Helper()
	l := decs(t, s)
	return api.Mat{A: l[0], B: l[1], C: l[2], D: l[3], E: l[4], F: l[5]}
}

func boxes(t *testing.T, l ...string) []api.Box {
	t.Helper()
	var out []api.Box
	for _, s := range l {
		d := decs(t, s)
		out = append(out, api.Box{X0: d[0], Y0: d[1], X1: d[2], Y1: d[3]})
	}
	return out
}

// rows returns pixels as rows of characters.
func rows(l []bool, width int) string {
	s := ""
	for i, covered := range l {
		if i > 0 && i%width == 0 {
			s += "/"
		}
		if covered {
			s += "x"
		} else {
			s += "."
		}
	}
	return s
}

func TestCovered(t *testing.T) {
	for _, c := range []struct {
		m             string
		width, height int
		regions       []string
		want          string
	}{
		{"2 0 0 2 0 0", 2, 2, []string{"0 0 0.5 0.5"}, "../x."}, {"2 0 0 2 0 0", 2, 2, nil, "../.."}, {"2 0 0 2 0 0", 2, 2, []string{"1.5 1.5 1.5 1.5"}, ".x/.."}, {"2 0 0 2 0 0", 2, 2, []string{"0.5 1.5 0.5 1.5"}, "x./.."}, {"2 0 0 2 0 0", 2, 2, []string{"1.5 0.5 9 0.5"}, "../.x"},
		// Edges belong to both sides.
		{"2 0 0 2 0 0", 2, 2, []string{"1 1 1 1"}, "xx/xx"}, {"2 0 0 2 0 0", 2, 2, []string{"1 0.5 1 0.5"}, "../xx"}, {"2 0 0 2 0 0", 2, 2, []string{"0.5 1 0.5 1"}, "x./x."}, {"2 0 0 2 0 0", 2, 2, []string{"2 2 3 3"}, ".x/.."}, {"2 0 0 2 0 0", 2, 2, []string{"-1 -1 0 0"}, "../x."}, {"2 0 0 2 0 0", 2, 2, []string{"2.000000001 2 3 3"}, "../.."},
		{"2 0 0 2 0 0", 2, 2, []string{"2 2.000000001 3 3"}, "../.."}, {"2 0 0 2 0 0", 2, 2, []string{"0 -1 2 -0.000000001"}, "../.."}, {"2 0 0 2 0 0", 2, 2, []string{"-1 0 -0.000000001 2"}, "../.."}, {"2 0 0 2 0 0", 2, 2, []string{"0.999999999 0 0.999999999 0"}, "../x."}, {"2 0 0 2 0 0", 2, 2, []string{"1.000000001 0 2 0"}, "../.x"},
		// Several regions, and all of it.
		{"2 0 0 2 0 0", 2, 2, []string{"0 0 0.5 0.5", "1.5 1.5 1.5 1.5"}, ".x/x."}, {"2 0 0 2 0 0", 2, 2, []string{"5 5 6 6", "0.5 0.5 0.5 0.5", "-5 -5 -4 -4"}, "../x."}, {"2 0 0 2 0 0", 2, 2, []string{"-9 -9 9 9"}, "xx/xx"}, {"1 0 0 1 0 0", 1, 1, []string{"0.5 0.5 0.5 0.5"}, "x"},
		// Rows and columns of other numbers.
		{"3 0 0 1 0 0", 3, 1, []string{"1.5 0.5 1.5 0.5"}, ".x."}, {"1 0 0 3 0 0", 1, 3, []string{"0.5 2.5 0.5 2.5"}, "x/./."}, {"1 0 0 3 0 0", 1, 3, []string{"0.5 0.5 0.5 0.5"}, "././x"}, {"1 0 0 1 0 0", 3, 2, []string{"0.34 0.51 0.66 0.51"}, ".x./..."}, {"1 0 0 1 0 0", 3, 2, []string{"0.33 0.5 0.33 0.5"}, "x../x.."},
		// A third isn't a decimal, but its edge is known.
		{"1 0 0 1 0 0", 3, 1, []string{"0.333333333 0 0.333333333 0"}, "x.."}, {"1 0 0 1 0 0", 3, 1, []string{"0.333333334 0 0.333333334 0"}, ".x."}, {"1 0 0 1 0 0", 1, 3, []string{"0 0.333333333 0 0.333333333"}, "././x"}, {"1 0 0 1 0 0", 1, 3, []string{"0 0.333333334 0 0.333333334"}, "./x/."},
		// Moved, mirrored, turned, slanted, and flat.
		{"2 0 0 2 10 20", 2, 2, []string{"10.5 20.5 10.5 20.5"}, "../x."}, {"2 0 0 2 10 20", 2, 2, []string{"0 0 5 5"}, "../.."}, {"-2 0 0 2 0 0", 2, 2, []string{"-0.5 0.5 -0.5 0.5"}, "../x."}, {"2 0 0 -2 0 0", 2, 2, []string{"0.5 -0.5 0.5 -0.5"}, "../x."}, {"0 2 -2 0 0 0", 2, 2, []string{"-0.5 0.5 -0.5 0.5"}, "../x."}, {"0 2 -2 0 0 0", 2, 2, []string{"-0.5 1.5 -0.5 1.5"}, "../.x"}, {"0 2 -2 0 0 0", 2, 2, []string{"-1.5 0.5 -1.5 0.5"}, "x./.."},
		{"2 2 -2 2 0 0", 2, 2, []string{"0 0 0 0"}, "../x."}, {"2 2 -2 2 0 0", 2, 2, []string{"0.5 0 0.5 0"}, "../x."}, {"2 2 -2 2 0 0", 2, 2, []string{"0 2 0 2"}, "xx/xx"}, {"2 2 -2 2 0 0", 2, 2, []string{"-2 1.5 -1.5 1.5"}, "x./.."}, {"0 0 0 0 3 4", 2, 2, []string{"3 4 3 4"}, "xx/xx"}, {"2 0 0 0 0 0", 2, 2, []string{"0.5 0 0.5 0"}, "x./x."}, {"0 0 0 0 3 4", 2, 2, []string{"3.1 4 5 5"}, "../.."},
		{"2 0 3 5 0 0", 1, 2, []string{"0 0 0 0"}, "./x"}, {"2 0 3 5 0 0", 1, 2, []string{"5 5 5 5"}, "x/."}, {"2 1 0 5 0 0", 2, 1, []string{"2 6 2 6"}, ".x"},
	} {
		l, e := raster.Covered(matrix(t, c.m), c.width, c.height, boxes(t, c.regions...))
		if got := rows(l, c.width); got != c.want || e != api.OK {
			t.Errorf("P22.2: %s, %d by %d, %q: %s, %d, want %s", c.m, c.width, c.height, c.regions, got, e, c.want)
		}
	}
}

func TestCoveredRefuses(t *testing.T) {
	one := matrix(t, "1 0 0 1 0 0")
	wrongBoxes := []api.Box{{X0: api.Dec{M: 1}}, {Y0: api.Dec{M: 1}}, {X0: api.Dec{S: 1}}, {Y1: api.Dec{M: 1000000000000000000}}}
	for _, c := range []struct {
		name          string
		m             api.Mat
		width, height int
		regions       []api.Box
		want          api.Errno
	}{
		{"no width", one, 0, 1, nil, api.ErrArg}, {"no height", one, 1, 0, nil, api.ErrArg}, {"below 0", one, -1, 5, nil, api.ErrArg}, {"also below 0", one, 5, -1, nil, api.ErrArg}, {"both below 0", one, -1, -1, nil, api.ErrArg}, {"65537 pixels", one, 65537, 1, nil, api.ErrArg}, {"65537 rows", one, 1, 65537, nil, api.ErrArg}, {"257 by 256", one, 257, 256, nil, api.ErrArg}, {"more than an int", one, 1 << 32, 1 << 32, nil, api.ErrArg}, {"the greatest", one, math.MaxInt, math.MaxInt, nil, api.ErrArg}, {"the least", one, math.MinInt, math.MinInt, nil, api.ErrArg}, {"more than an int, and 0", one, 1 << 62, 4, nil, api.ErrArg},
		{"a matrix that is not valid", api.Mat{F: api.Dec{M: 10, S: 1}}, 1, 1, nil, api.ErrArg}, {"another one", api.Mat{A: api.Dec{S: -1}}, 1, 1, nil, api.ErrArg}, {"65536 columns", one, 65536, 1, nil, api.OK}, {"65536 rows", one, 1, 65536, nil, api.OK}, {"256 by 256", one, 256, 256, nil, api.OK},
		// Numbers that are not representable: those of any point or region, even if there is nothing that they could meet.
		{"A", matrix(t, "500000000000000000 0 0 1 0 0"), 2, 1, nil, api.ErrOver}, {"A of many rows", matrix(t, "500000000000000000 0 0 1 0 0"), 1, 2, nil, api.ErrOver}, {"A of one", matrix(t, "500000000000000000 0 0 1 0 0"), 1, 1, nil, api.OK}, {"B", matrix(t, "1 500000000000000000 0 1 0 0"), 2, 1, nil, api.ErrOver}, {"C", matrix(t, "1 0 -500000000000000000 1 0 0"), 2, 1, nil, api.ErrOver}, {"D", matrix(t, "1 0 0 500000000000000000 0 0"), 1, 2, nil, api.ErrOver}, {"D of one", matrix(t, "1 0 0 500000000000000000 0 0"), 1, 1, nil, api.OK}, {"E", matrix(t, "1 0 0 1 500000000000000000 0"), 2, 1, nil, api.ErrOver}, {"F", matrix(t, "1 0 0 1 0 500000000000000000"), 2, 1, nil, api.ErrOver},
		{"A and C", matrix(t, "500000000000000000 0 500000000000000000 0 0 0"), 1, 1, nil, api.ErrOver}, {"B and D", matrix(t, "0 500000000000000000 0 500000000000000000 0 0"), 1, 1, nil, api.ErrOver}, {"A and E", matrix(t, "500000000000000000 0 0 0 500000000000000000 0"), 1, 1, nil, api.ErrOver}, {"D and F", matrix(t, "0 0 0 500000000000000000 0 500000000000000000"), 1, 1, nil, api.ErrOver},
		// What is added last may not make good what came first.
		{"A and C, made good by E", matrix(t, "500000000000000000 0 500000000000000000 0 -500000000000000000 0"), 1, 1, nil, api.ErrOver}, {"B and D, made good by F", matrix(t, "0 500000000000000000 0 500000000000000000 0 -500000000000000000"), 1, 1, nil, api.ErrOver}, {"C makes A good", matrix(t, "500000000000000000 0 -1 0 499999999999999999 0"), 1, 1, nil, api.OK}, {"digits", matrix(t, "999999999.999999999 0 0 1 0 0"), 2, 1, nil, api.ErrOver}, {"digits of two", matrix(t, "0.000000001 0 0 1 1000000000 0"), 1, 1, nil, api.ErrOver},
		{"a region", one, 2, 1, boxes(t, "0 0 500000000000000000 0"), api.ErrOver}, {"a region below 0", one, 1, 2, boxes(t, "-500000000000000000 0 0 0"), api.ErrOver}, {"a high region", one, 1, 2, boxes(t, "0 0 1 1", "0 0 0 500000000000000000"), api.ErrOver}, {"a low region", one, 1, 2, boxes(t, "0 -500000000000000000 0 0"), api.ErrOver}, {"the same, of one pixel", one, 1, 1, boxes(t, "-500000000000000000 0 500000000000000000 0"), api.OK},
		// The order of errors.
		{"no width, and too great", matrix(t, "500000000000000000 0 0 1 0 0"), 0, 2, nil, api.ErrArg}, {"a region that is not valid, and too great", matrix(t, "500000000000000000 0 0 1 0 0"), 2, 2, wrongBoxes[:1], api.ErrArg}, {"the last region not valid", one, 2, 1, append(boxes(t, "0 0 500000000000000000 0"), wrongBoxes[1]), api.ErrArg},
	} {
		l, e := raster.Covered(c.m, c.width, c.height, c.regions)
		if e != c.want || e != api.OK && l != nil || e == api.OK && len(l) != c.width*c.height {
			t.Errorf("P22.2: %s: %d pixels, %d, want %d", c.name, len(l), e, c.want)
		}
	}
	for _, b := range wrongBoxes {
		if l, e := raster.Covered(one, 1, 1, []api.Box{b}); l != nil || e != api.ErrArg {
			t.Errorf("P22.2: %v: %v, %d", b, l, e)
		}
	}
}

func rat(d api.Dec) *big.Rat {
	s, _ := dec.Print(d)
	r, _ := new(big.Rat).SetString(s)
	return r
}

func mul(a, b *big.Rat) *big.Rat { return new(big.Rat).Mul(a, b) }
func add(a, b *big.Rat) *big.Rat { return new(big.Rat).Add(a, b) }

// covered tells by fractions whether the pixel in column x of row y meets a region.
func covered(m api.Mat, width, height, x, y int, b api.Box) bool {
	var xs, ys []*big.Rat
	for i := range 4 {
		u := big.NewRat(int64(x+i%2), int64(width))
		v := add(big.NewRat(1, 1), big.NewRat(int64(-y-i/2), int64(height)))
		xs = append(xs, add(add(mul(rat(m.A), u), mul(rat(m.C), v)), rat(m.E)))
		ys = append(ys, add(add(mul(rat(m.B), u), mul(rat(m.D), v)), rat(m.F)))
	}
	compare := func(a, b *big.Rat) int { return a.Cmp(b) }
	return slices.MinFunc(xs, compare).Cmp(rat(b.X1)) <= 0 && rat(b.X0).Cmp(slices.MaxFunc(xs, compare)) <= 0 && slices.MinFunc(ys, compare).Cmp(rat(b.Y1)) <= 0 && rat(b.Y0).Cmp(slices.MaxFunc(ys, compare)) <= 0
}

func TestCoveredByFractions(t *testing.T) {
	r := rand.New(rand.NewSource(222))
	number := func() api.Dec {
		d, _ := dec.Make(r.Intn(41)-20, r.Intn(2))
		return d
	}
	some, none := 0, 0
	for range 1500 {
		m := api.Mat{A: number(), B: number(), C: number(), D: number(), E: number(), F: number()}
		width, height := 1+r.Intn(4), 1+r.Intn(4)
		var regions []api.Box
		for range r.Intn(4) {
			b, _ := box.Of([]api.Point{{X: number(), Y: number()}, {X: number(), Y: number()}})
			regions = append(regions, b)
		}
		l, e := raster.Covered(m, width, height, regions)
		if e != api.OK {
			t.Fatalf("P22.2: %v, %d by %d, %v: %d", m, width, height, regions, e)
		}
		for i, got := range l {
			want := slices.ContainsFunc(regions, func(b api.Box) bool { return covered(m, width, height, i%width, i/width, b) })
			if got != want {
				t.Fatalf("P22.2: %v, %d by %d, %v: pixel %d: %v", m, width, height, regions, i, got)
			}
			if got {
				some++
			} else {
				none++
			}
		}
		// With fewer regions no other pixels are covered.
		if len(regions) > 0 {
			fewer, _ := raster.Covered(m, width, height, regions[1:])
			for i := range fewer {
				if fewer[i] && !l[i] {
					t.Fatalf("P22.4: %v, %d by %d, %v: pixel %d", m, width, height, regions, i)
				}
			}
		}
	}
	if some < 500 || none < 500 {
		t.Errorf("%d pixels covered, %d not", some, none)
	}
}
