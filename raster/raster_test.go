package raster_test

import (
	"bytes"
	"math"
	"math/big"
	"math/rand"
	"reflect"
	"slices"
	"testing"

	"erasure/api"
	"erasure/raster"
)

func image(width, height, bits, comps int, data string) api.Image {
	return api.Image{Width: width, Height: height, Bits: bits, Comps: comps, Data: []byte(data)}
}

func sameImage(a, b api.Image) bool {
	return bytes.Equal(a.Data, b.Data) && a.Width == b.Width && a.Height == b.Height && a.Bits == b.Bits && a.Comps == b.Comps
}

// formats are some that are valid, with the number of bytes of their data.
func formats() []struct {
	im   api.Image
	size int
} {
	return []struct {
		im   api.Image
		size int
	}{
		{image(1, 1, 1, 1, ""), 1}, {image(8, 1, 1, 1, ""), 1}, {image(9, 1, 1, 1, ""), 2}, {image(9, 3, 1, 1, ""), 6}, {image(3, 2, 1, 3, ""), 4}, {image(1, 1, 2, 4, ""), 1}, {image(5, 2, 2, 1, ""), 4}, {image(3, 1, 4, 1, ""), 2}, {image(3, 5, 4, 3, ""), 25}, {image(2, 2, 8, 2, ""), 8}, {image(1, 1, 8, 4, ""), 4},
		{image(1, 1, 16, 1, ""), 2}, {image(3, 2, 16, 3, ""), 36}, {image(65536, 1, 1, 1, ""), 8192}, {image(1, 65536, 1, 1, ""), 65536}, {image(256, 256, 8, 1, ""), 65536}, {image(256, 256, 16, 4, ""), 524288},
	}
}

// wrongFormats are some that are not valid, whatever the data.
func wrongFormats() []api.Image {
	return []api.Image{
		{}, image(0, 1, 8, 1, ""), image(1, 0, 8, 1, ""), image(-1, 1, 8, 1, "x"), image(1, -1, 8, 1, "x"), image(-1, -1, 8, 1, "x"), image(1, 1, 0, 1, ""), image(1, 1, 3, 1, "x"), image(1, 1, 5, 1, "x"), image(1, 1, 6, 1, "x"), image(1, 1, 7, 1, "x"), image(1, 1, 12, 1, "xx"), image(1, 1, 24, 1, "xxx"), image(1, 1, 32, 1, "xxxx"), image(1, 1, -8, 1, "x"),
		image(1, 1, 8, 0, ""), image(1, 1, 8, 5, "xxxxx"), image(1, 1, 8, -1, "x"), image(65537, 1, 1, 1, string(make([]byte, 8193))), image(1, 65537, 8, 1, string(make([]byte, 65537))), image(257, 256, 8, 1, string(make([]byte, 257*256))), image(math.MaxInt, 2, 8, 1, ""), image(2, math.MaxInt, 8, 1, ""), image(math.MaxInt, math.MaxInt, 8, 1, ""), image(1<<32, 1<<32, 8, 1, ""), image(math.MinInt, math.MinInt, 8, 1, ""), image(1<<62, 4, 1, 1, ""), image(1, 1, math.MaxInt, 1, "x"), image(1, 1, 8, math.MaxInt, "x"), image(1, 1, math.MinInt, 1, "x"),
	}
}

func TestCheck(t *testing.T) {
	for _, c := range formats() {
		for _, n := range []int{c.size - 1, c.size, c.size + 1, 0, 2 * c.size} {
			im, want := c.im, api.ErrArg
			im.Data = make([]byte, n)
			if n == c.size {
				want = api.OK
			}
			if e := raster.Check(im); e != want {
				t.Errorf("P22.1: %v of %d bytes: %d, want %d", c.im, n, e, want)
			}
			if l, e := raster.Samples(im); e != want || (l == nil) != (e != api.OK) {
				t.Errorf("P22.1: samples of %v of %d bytes: %d, want %d", c.im, n, e, want)
			}
			covered := make([]bool, c.im.Width*c.im.Height)
			if b, e := raster.Blank(im, covered); e != want || e != api.OK && !reflect.DeepEqual(b, api.Image{}) {
				t.Errorf("P22.3: %v of %d bytes: %d, want %d", c.im, n, e, want)
			}
		}
	}
	for _, im := range wrongFormats() {
		if e := raster.Check(im); e != api.ErrArg {
			t.Errorf("P22.1: %d by %d, %d, %d: %d", im.Width, im.Height, im.Bits, im.Comps, e)
		}
		if l, e := raster.Samples(im); l != nil || e != api.ErrArg {
			t.Errorf("P22.1: samples of %d by %d, %d, %d: %d", im.Width, im.Height, im.Bits, im.Comps, e)
		}
		for _, n := range []int{0, 1, 2} {
			if p, e := raster.Pack(im, make([]int, n)); !reflect.DeepEqual(p, api.Image{}) || e != api.ErrArg {
				t.Errorf("P22.1: Pack of %d by %d, %d, %d: %d", im.Width, im.Height, im.Bits, im.Comps, e)
			}
			if p, e := raster.Blank(im, make([]bool, n)); !reflect.DeepEqual(p, api.Image{}) || e != api.ErrArg {
				t.Errorf("P22.3: %d by %d, %d, %d: %d", im.Width, im.Height, im.Bits, im.Comps, e)
			}
		}
	}
}

func TestSamplesAndPack(t *testing.T) {
	for _, c := range []struct {
		im     api.Image
		want   []int
		packed string // the data without what is not used
	}{
		{image(3, 1, 4, 1, "\x12\x30"), []int{1, 2, 3}, "\x12\x30"}, {image(3, 1, 4, 1, "\x12\x3f"), []int{1, 2, 3}, "\x12\x30"}, {image(1, 1, 1, 1, "\x80"), []int{1}, "\x80"}, {image(1, 1, 1, 1, "\x7f"), []int{0}, "\x00"},
		{image(9, 2, 1, 1, "\xaa\xff\x55\x00"), []int{1, 0, 1, 0, 1, 0, 1, 0, 1, 0, 1, 0, 1, 0, 1, 0, 1, 0}, "\xaa\x80\x55\x00"}, {image(3, 2, 2, 1, "\x1b\xe7"), []int{0, 1, 2, 3, 2, 1}, "\x18\xe4"}, {image(1, 1, 2, 3, "\x1b"), []int{0, 1, 2}, "\x18"},
		{image(1, 3, 1, 3, "\xff\x40\x3f"), []int{1, 1, 1, 0, 1, 0, 0, 0, 1}, "\xe0\x40\x20"}, {image(1, 2, 8, 2, "\x01\x02\xfe\xff"), []int{1, 2, 254, 255}, "\x01\x02\xfe\xff"}, {image(1, 1, 16, 2, "\x01\x02\xff\xfe"), []int{258, 65534}, "\x01\x02\xff\xfe"},
		{image(1, 2, 16, 1, "\xff\xff\x00\x01"), []int{65535, 1}, "\xff\xff\x00\x01"}, {image(1, 2, 4, 1, "\xf1\x8e"), []int{15, 8}, "\xf0\x80"}, {image(5, 1, 2, 1, "\xff\xff"), []int{3, 3, 3, 3, 3}, "\xff\xc0"}, {image(1, 1, 4, 4, "\xab\xcd"), []int{10, 11, 12, 13}, "\xab\xcd"},
	} {
		l, e := raster.Samples(c.im)
		if !slices.Equal(l, c.want) || e != api.OK {
			t.Errorf("P22.1: samples of %v: %v, %d, want %v", c.im, l, e, c.want)
		}
		want := c.im
		want.Data = []byte(c.packed)
		for _, data := range []string{"", "some other data"} {
			format := c.im
			format.Data = []byte(data)
			if p, e := raster.Pack(format, c.want); !sameImage(p, want) || e != api.OK {
				t.Errorf("P22.1: %v of %v: %v, %d", c.im, c.want, p, e)
			}
		}
		none := make([]bool, c.im.Width*c.im.Height)
		if b, e := raster.Blank(c.im, none); !sameImage(b, want) || e != api.OK {
			t.Errorf("P22.3: nothing of %v: %v, %d", c.im, b, e)
		}
	}
}

func TestPackRefuses(t *testing.T) {
	for _, bits := range []int{1, 2, 4, 8, 16} {
		most := 1<<bits - 1
		format := image(2, 1, bits, 1, "")
		for _, c := range []struct {
			l    []int
			want api.Errno
		}{
			{[]int{0, most}, api.OK}, {[]int{most, 0}, api.OK}, {[]int{most + 1, 0}, api.ErrArg}, {[]int{0, most + 1}, api.ErrArg}, {[]int{-1, 0}, api.ErrArg}, {[]int{0, -1}, api.ErrArg}, {[]int{0, math.MaxInt}, api.ErrArg}, {[]int{math.MinInt, 0}, api.ErrArg},
			{nil, api.ErrArg}, {[]int{0}, api.ErrArg}, {[]int{0, 0, 0}, api.ErrArg},
		} {
			if p, e := raster.Pack(format, c.l); e != c.want || e != api.OK && !reflect.DeepEqual(p, api.Image{}) {
				t.Errorf("P22.1: %d bits, %v: %v, %d, want %d", bits, c.l, p, e, c.want)
			}
		}
	}
	for _, n := range []int{5, 7, 12} {
		if _, e := raster.Pack(image(1, 2, 8, 3, ""), make([]int, n)); e != api.ErrArg {
			t.Errorf("P22.1: %d samples: %d", n, e)
		}
	}
}

func TestBlank(t *testing.T) {
	for _, c := range []struct {
		im      api.Image
		covered []bool
		want    string
	}{
		{image(2, 2, 8, 1, "abcd"), []bool{true, false, false, true}, "\x00bc\x00"}, {image(2, 1, 8, 3, "abcdef"), []bool{false, true}, "abc\x00\x00\x00"}, {image(3, 1, 4, 1, "\x12\x3f"), []bool{false, true, false}, "\x10\x30"}, {image(3, 1, 4, 1, "\x12\x3f"), []bool{false, false, true}, "\x12\x00"},
		{image(3, 2, 1, 1, "\xff\xff"), []bool{true, false, false, false, false, true}, "\x60\xc0"}, {image(1, 2, 16, 1, "\x12\x34\x56\x78"), []bool{false, true}, "\x12\x34\x00\x00"}, {image(1, 1, 8, 4, "abcd"), []bool{true}, "\x00\x00\x00\x00"}, {image(2, 1, 2, 3, "\xff\xff"), []bool{true, false}, "\x03\xf0"},
	} {
		b, e := raster.Blank(c.im, c.covered)
		want := c.im
		want.Data = []byte(c.want)
		if !sameImage(b, want) || e != api.OK {
			t.Errorf("P22.3: %v, %v: %x, %d, want %x", c.im, c.covered, b.Data, e, c.want)
		}
	}
	for _, n := range []int{0, 3, 5, 12} {
		if b, e := raster.Blank(image(2, 2, 8, 3, "abcdefghijkl"), make([]bool, n)); !reflect.DeepEqual(b, api.Image{}) || e != api.ErrArg {
			t.Errorf("P22.3: %d of 4 pixels: %v, %d", n, b, e)
		}
	}
}

func TestProperties(t *testing.T) {
	r := rand.New(rand.NewSource(22))
	for range 2000 {
		im := image(1+r.Intn(9), 1+r.Intn(5), []int{1, 2, 4, 8, 16}[r.Intn(5)], 1+r.Intn(4), "")
		im.Data = make([]byte, im.Height*((im.Width*im.Comps*im.Bits+7)/8))
		r.Read(im.Data)
		l, e := raster.Samples(im)
		if e != api.OK || len(l) != im.Width*im.Height*im.Comps {
			t.Fatalf("P22.1: %v: %d samples, %d", im, len(l), e)
		}
		// Each sample is as many digits of its row, written in base 2.
		for i, v := range l {
			perRow, size := im.Width*im.Comps, len(im.Data)/im.Height
			row := new(big.Int).SetBytes(im.Data[i/perRow*size:][:size])
			row.Rsh(row, uint(8*size-(i%perRow+1)*im.Bits))
			if want := new(big.Int).And(row, big.NewInt(1<<im.Bits-1)); int64(v) != want.Int64() {
				t.Fatalf("P22.1: %v: sample %d is %d, want %v", im, i, v, want)
			}
		}
		p, e := raster.Pack(im, l)
		if again, f := raster.Samples(p); !slices.Equal(again, l) || e != api.OK || f != api.OK {
			t.Fatalf("P22.4: %v: %v, %d, %d, want %v", im, again, e, f, l)
		}
		covered := make([]bool, im.Width*im.Height)
		for i := range covered {
			covered[i] = r.Intn(3) == 0
		}
		b, e := raster.Blank(im, covered)
		if e != api.OK {
			t.Fatalf("P22.3: %v: %d", im, e)
		}
		if twice, e := raster.Blank(b, covered); !sameImage(twice, b) || e != api.OK {
			t.Fatalf("P22.4: %v, %v: %x, %d, want %x", im, covered, twice.Data, e, b.Data)
		}
		left, _ := raster.Samples(b)
		for i, v := range left {
			if want := l[i]; covered[i/im.Comps] && v != 0 || !covered[i/im.Comps] && v != want {
				t.Fatalf("P22.3: %v, %v: sample %d is %d", im, covered, i, v)
			}
		}
		if p, _ := raster.Pack(im, left); !sameImage(p, b) {
			t.Fatalf("P22.3: %v, %v: what is not used stays: %x", im, covered, b.Data)
		}
	}
}

func TestArgumentsAreKept(t *testing.T) {
	data := []byte("abcd????")
	im := api.Image{Width: 2, Height: 2, Bits: 8, Comps: 1, Data: data[:4]}
	covered := []bool{true, false, true, false, true}
	b, _ := raster.Blank(im, covered[:4])
	clear(b.Data)
	_ = append(b.Data, '!')
	b, _ = raster.Blank(im, make([]bool, 4))
	clear(b.Data)
	l, _ := raster.Samples(im)
	p, _ := raster.Pack(im, l)
	clear(p.Data)
	if string(data) != "abcd????" || !slices.Equal(covered, []bool{true, false, true, false, true}) || !slices.Equal(l, []int{'a', 'b', 'c', 'd'}) {
		t.Errorf("R2: %q, %v, %v", data, covered, l)
	}
	regions := []api.Box{{X1: api.Dec{M: 1}, Y1: api.Dec{M: 1}}, {X0: api.Dec{M: 7}, X1: api.Dec{M: 8}}, {Y1: api.Dec{M: 9}}}
	kept := slices.Clone(regions)
	raster.Covered(api.Mat{A: api.Dec{M: 2}, D: api.Dec{M: 2}}, 2, 2, regions[:2])
	if !slices.Equal(regions, kept) {
		t.Errorf("R2: %v", regions)
	}
}
