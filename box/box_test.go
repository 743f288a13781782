package box_test

import (
	"math"
	"math/rand"
	"slices"
	"strings"
	"testing"

	"erasure/api"
	"erasure/box"
	"erasure/dec"
	"erasure/matrix"
)

var invalid = []api.Dec{
	{M: 10, S: 1}, {M: -120, S: 2}, {S: 1}, {M: 1, S: 10}, {M: 1, S: -1},
	{M: api.MaxDec + 1}, {M: -api.MaxDec - 1}, {M: math.MaxInt}, {M: math.MinInt}, {M: 1, S: math.MinInt},
}

const most = "999999999999999999"

// numbers returns the decimals of n numerals.
func numbers(t *testing.T, s string, n int) []api.Dec {
	t.Helper()
	var l []api.Dec
	for _, f := range strings.Fields(s) {
		d, e := dec.Parse(f)
		if e != api.OK {
			t.Fatalf("Parse(%q): %d", f, e)
		}
		l = append(l, d)
	}
	if len(l) != n {
		t.Fatalf("not %d numbers: %q", n, s)
	}
	return l
}

// boxOf returns the box X0 Y0 X1 Y1.
func boxOf(t *testing.T, s string) api.Box {
	t.Helper()
	l := numbers(t, s, 4)
	return api.Box{X0: l[0], Y0: l[1], X1: l[2], Y1: l[3]}
}

func matOf(t *testing.T, s string) api.Mat {
	t.Helper()
	l := numbers(t, s, 6)
	return api.Mat{A: l[0], B: l[1], C: l[2], D: l[3], E: l[4], F: l[5]}
}

// points returns those of pairs of numerals.
func points(t *testing.T, s string) []api.Point {
	t.Helper()
	l := numbers(t, s, len(strings.Fields(s)))
	if len(l)%2 != 0 {
		t.Fatalf("not whole points: %q", s)
	}
	var p []api.Point
	for i := 0; i < len(l); i += 2 {
		p = append(p, api.Point{X: l[i], Y: l[i+1]})
	}
	return p
}

// whole returns the box of four whole numbers.
func whole(x0, y0, x1, y1 int) api.Box {
	return api.Box{X0: api.Dec{M: x0}, Y0: api.Dec{M: y0}, X1: api.Dec{M: x1}, Y1: api.Dec{M: y1}}
}

// wrong lists boxes that are not valid.
func wrong(t *testing.T) []api.Box {
	t.Helper()
	var l []api.Box
	for _, bad := range invalid {
		for i := range 4 {
			b := whole(0, 0, 1, 1)
			*[]*api.Dec{&b.X0, &b.Y0, &b.X1, &b.Y1}[i] = bad
			l = append(l, b)
		}
		// Compare can't tell that one of these is less.
		l = append(l, api.Box{X0: bad, X1: bad}, api.Box{Y0: bad, Y1: bad})
	}
	for _, s := range []string{"1 0 0 1", "0 1 1 0", "1 1 0 0", "0.5 0 0.25 1", "0 -1 1 -1.5", most + " 0 -" + most + " 0", "0 0.000000001 0 0", "10 0 9.5 1"} {
		l = append(l, boxOf(t, s))
	}
	return l
}

// holds tells whether p is in b, including its edges.
func holds(b api.Box, p api.Point) bool {
	return ordered(b.X0, p.X) && ordered(p.X, b.X1) && ordered(b.Y0, p.Y) && ordered(p.Y, b.Y1)
}

func ordered(a, b api.Dec) bool {
	c, e := dec.Compare(a, b)
	return e == api.OK && c <= 0
}

func cornersOf(b api.Box) []api.Point {
	return []api.Point{{X: b.X0, Y: b.Y0}, {X: b.X0, Y: b.Y1}, {X: b.X1, Y: b.Y0}, {X: b.X1, Y: b.Y1}}
}

// grid lists all boxes with edges from 0 to n - 1.
func grid(n int) []api.Box {
	var l []api.Box
	for x0 := range n {
		for x1 := x0; x1 < n; x1++ {
			for y0 := range n {
				for y1 := y0; y1 < n; y1++ {
					l = append(l, whole(x0, y0, x1, y1))
				}
			}
		}
	}
	return l
}

// decimal returns a short one.
func decimal(r *rand.Rand) api.Dec {
	d, e := dec.Make(r.Intn(2001)-1000, r.Intn(3))
	if e != api.OK {
		return api.Dec{}
	}
	return d
}

func anyBox(r *rand.Rand) api.Box {
	x0, y0, x1, y1 := decimal(r), decimal(r), decimal(r), decimal(r)
	if !ordered(x0, x1) {
		x0, x1 = x1, x0
	}
	if !ordered(y0, y1) {
		y0, y1 = y1, y0
	}
	return api.Box{X0: x0, Y0: y0, X1: x1, Y1: y1}
}

// within returns a point of b whose numbers are its edges or lie between them.
func within(r *rand.Rand, b api.Box) api.Point {
	p := api.Point{X: decimal(r), Y: decimal(r)}
	if !ordered(b.X0, p.X) || !ordered(p.X, b.X1) {
		p.X = []api.Dec{b.X0, b.X1}[r.Intn(2)]
	}
	if !ordered(b.Y0, p.Y) || !ordered(p.Y, b.Y1) {
		p.Y = []api.Dec{b.Y0, b.Y1}[r.Intn(2)]
	}
	return p
}

func TestCheck(t *testing.T) {
	for _, s := range []string{"0 0 0 0", "0 0 1 1", "-1 -2 3 4", "5 5 5 5", "0.25 9.5 0.5 10", "-0.5 -10 -0.25 -9.5", "-" + most + " -" + most + " " + most + " " + most, most + " " + most + " " + most + " " + most} {
		if e := box.Check(boxOf(t, s)); e != api.OK {
			t.Errorf("P3.1: Check(%s): %d", s, e)
		}
	}
	for _, b := range wrong(t) {
		if e := box.Check(b); e != api.ErrArg {
			t.Errorf("P3.1: Check(%v): %d", b, e)
		}
	}
}

func TestOf(t *testing.T) {
	for _, x := range []struct{ points, want string }{
		{"3 4", "3 4 3 4"}, {"0 0 2 1", "0 0 2 1"}, {"2 1 0 0", "0 0 2 1"}, {"2 0 0 1", "0 0 2 1"}, {"0 1 2 0", "0 0 2 1"},
		{"1 5 -2 3 7 4 0 -6", "-2 -6 7 5"}, {"10 0.5 9.5 0.25", "9.5 0.25 10 0.5"}, {"-10 -0.5 -9.5 -0.25", "-10 -0.5 -9.5 -0.25"},
		{"1 1 1 1 1 1", "1 1 1 1"}, {most + " -" + most + " -" + most + " " + most, "-" + most + " -" + most + " " + most + " " + most},
		{"0.1 0.1 0.11 0.09", "0.1 0.09 0.11 0.1"}, {"-1 -1 -3 -3 -2 -2", "-3 -3 -1 -1"}, {"1 1 3 3 2 2", "1 1 3 3"},
	} {
		if b, e := box.Of(points(t, x.points)); b != boxOf(t, x.want) || e != api.OK {
			t.Errorf("P3.1: Of(%s): %v, %d, want %s", x.points, b, e, x.want)
		}
	}
}

func TestOfRefuses(t *testing.T) {
	for _, l := range [][]api.Point{nil, {}, make([]api.Point, 0, 4)} {
		if b, e := box.Of(l); b != (api.Box{}) || e != api.ErrNone {
			t.Errorf("P3.1: Of no points: %v, %d", b, e)
		}
	}
	for _, bad := range invalid {
		for at := range 3 {
			for _, p := range []api.Point{{X: bad}, {Y: bad}} {
				l := points(t, "1 2 3 4 5 6")
				l[at] = p
				if b, e := box.Of(l); b != (api.Box{}) || e != api.ErrArg {
					t.Errorf("P3.1: Of(%v): %v, %d", l, b, e)
				}
			}
		}
		for _, p := range []api.Point{{X: bad}, {Y: bad}} {
			if b, e := box.Of([]api.Point{p}); b != (api.Box{}) || e != api.ErrArg {
				t.Errorf("P3.1: Of(%v): %v, %d", p, b, e)
			}
		}
	}
}

func TestOfLeavesPointsAlone(t *testing.T) {
	l := points(t, "5 1 2 2 3 0 9 9")
	kept := slices.Clone(l)
	if _, e := box.Of(l[:2]); e != api.OK {
		t.Errorf("P3.1: Of(%v): %d", l[:2], e)
	}
	if !slices.Equal(l, kept) {
		t.Errorf("P3.1: Of changed its points to %v", l)
	}
}

func TestOfIsSmallest(t *testing.T) {
	r := rand.New(rand.NewSource(1))
	for range 2000 {
		l := make([]api.Point, 1+r.Intn(6))
		for i := range l {
			l[i] = api.Point{X: decimal(r), Y: decimal(r)}
		}
		b, e := box.Of(l)
		if e != api.OK {
			t.Fatalf("P3.1: Of(%v): %d", l, e)
		}
		left, right, low, high := false, false, false, false
		for _, p := range l {
			if !holds(b, p) {
				t.Fatalf("P3.1: Of(%v): %v is not in %v", l, p, b)
			}
			left, right, low, high = left || p.X == b.X0, right || p.X == b.X1, low || p.Y == b.Y0, high || p.Y == b.Y1
		}
		if !left || !right || !low || !high {
			t.Fatalf("P3.1: Of(%v): %v is too great", l, b)
		}
	}
}

func TestMeets(t *testing.T) {
	for _, x := range []struct {
		a, b string
		want bool
	}{
		{"0 0 1 1", "1 1 2 2", true}, {"0 0 1 1", "1.1 0 2 2", false}, {"0 0 1 1", "0 1.1 2 2", false},
		{"0 0 1 1", "-1 -1 0 0", true}, {"0 0 1 1", "1 -1 2 0", true}, {"0 0 1 1", "-1 1 0 2", true},
		{"0 0 1 1", "1.000000001 0 2 1", false}, {"0 0 1 1", "-1 0 -0.000000001 1", false}, {"0 0 1 1", "0 -1 1 -0.000000001", false},
		{"0 0 9 9", "3 3 4 4", true}, {"0 4 9 5", "4 0 5 9", true}, {"2 2 2 2", "2 2 2 2", true}, {"2 2 2 2", "1 1 3 3", true}, {"2 2 2 2", "3 2 3 2", false},
		{"9.5 0 9.75 1", "10 0 11 1", false}, {"0.5 0 10 1", "9.75 0 11 1", true},
		{"-" + most + " 0 -1 0", "-1 0 " + most + " 0", true}, {"-" + most + " 0 -1 0", "-0.9 0 " + most + " 0", false},
	} {
		for _, y := range [][2]string{{x.a, x.b}, {x.b, x.a}} {
			if got, e := box.Meets(boxOf(t, y[0]), boxOf(t, y[1])); got != x.want || e != api.OK {
				t.Errorf("P3.2: Meets(%s, %s): %t, %d", y[0], y[1], got, e)
			}
		}
	}
}

// TestMeetsIfAPointIsInBoth takes edges that are whole: then boxes that meet
// have a whole point in common.
func TestMeetsIfAPointIsInBoth(t *testing.T) {
	const size = 4
	l := grid(size)
	for _, a := range l {
		for _, b := range l {
			want := false
			for i := range size * size {
				p := api.Point{X: api.Dec{M: i % size}, Y: api.Dec{M: i / size}}
				want = want || holds(a, p) && holds(b, p)
			}
			if got, e := box.Meets(a, b); got != want || e != api.OK {
				t.Fatalf("P3.2: Meets(%v, %v): %t, %d", a, b, got, e)
			}
		}
	}
}

func TestBoth(t *testing.T) {
	for _, x := range []struct{ a, b, want string }{
		{"0 0 1 1", "2 2 3 3", "0 0 3 3"}, {"0 0 1 1", "2 -3 3 -2", "0 -3 3 1"}, {"-5 2 1 3", "-4 1 9 2", "-5 1 9 3"},
		{"0 0 9 9", "3 3 4 4", "0 0 9 9"}, {"1 2 3 4", "1 2 3 4", "1 2 3 4"}, {"5 5 5 5", "5 5 5 5", "5 5 5 5"},
		{"9.5 0.25 9.75 0.5", "10 0.1 10 0.2", "9.5 0.1 10 0.5"}, {"-" + most + " 0 0 1", "0 0 " + most + " 1", "-" + most + " 0 " + most + " 1"},
	} {
		for _, y := range [][2]string{{x.a, x.b}, {x.b, x.a}} {
			if got, e := box.Both(boxOf(t, y[0]), boxOf(t, y[1])); got != boxOf(t, x.want) || e != api.OK {
				t.Errorf("P3.2: Both(%s, %s): %v, %d, want %s", y[0], y[1], got, e, x.want)
			}
		}
	}
}

func TestBothIsOfAllCorners(t *testing.T) {
	r := rand.New(rand.NewSource(2))
	for range 2000 {
		a, b := anyBox(r), anyBox(r)
		want, _ := box.Of(append(cornersOf(a), cornersOf(b)...))
		if got, e := box.Both(a, b); got != want || e != api.OK {
			t.Fatalf("P3.2: Both(%v, %v): %v, %d, want %v", a, b, got, e, want)
		}
	}
}

func TestWrongBoxes(t *testing.T) {
	l := wrong(t)
	for _, bad := range l {
		for _, other := range append(l, whole(0, 0, 1, 1), whole(5, 5, 6, 6), api.Box{}) {
			refused(t, bad, other)
			refused(t, other, bad)
		}
	}
}

func refused(t *testing.T, a, b api.Box) {
	t.Helper()
	if got, e := box.Meets(a, b); got || e != api.ErrArg {
		t.Errorf("P3.2: Meets(%v, %v): %t, %d", a, b, got, e)
	}
	if got, e := box.Both(a, b); got != (api.Box{}) || e != api.ErrArg {
		t.Errorf("P3.2: Both(%v, %v): %v, %d", a, b, got, e)
	}
}

func TestMap(t *testing.T) {
	for _, x := range []struct{ m, b, want string }{
		{"1 0 0 1 0 0", "1 2 3 4", "1 2 3 4"}, {"0 1 -1 0 0 0", "0 0 2 1", "-1 0 0 2"}, {"0 -1 1 0 0 0", "0 0 2 1", "0 -2 1 0"},
		{"-1 0 0 -1 0 0", "1 2 3 4", "-3 -4 -1 -2"}, {"2 0 0 3 10 20", "1 2 3 4", "12 26 16 32"}, {"1 0 0 -1 0 5", "1 2 3 4", "1 1 3 3"},
		// Slanted, so that each edge is that of another corner.
		{"1 2 1 -1 0 0", "0 0 4 3", "0 -3 7 8"}, {"2 1 -1 3 0 0", "0 0 4 3", "-3 0 8 13"}, {"1 1 1 1 0 0", "0 0 1 2", "0 0 3 3"},
		{"0 0 0 0 7 8", "1 2 3 4", "7 8 7 8"}, {"0.5 0 0 0.5 0.25 0", "1 1 1 1", "0.75 0.5 0.75 0.5"},
		{"1 0 0 1 0 0", "-" + most + " -" + most + " " + most + " " + most, "-" + most + " -" + most + " " + most + " " + most},
	} {
		if got, e := box.Map(matOf(t, x.m), boxOf(t, x.b)); got != boxOf(t, x.want) || e != api.OK {
			t.Errorf("P3.3: Map(%s, %s): %v, %d, want %s", x.m, x.b, got, e, x.want)
		}
	}
}

// TestMapOver has the four corners too far out, one at a time.
func TestMapOver(t *testing.T) {
	for _, x := range []struct{ m, b string }{
		{"1 0 1 0 0 0", "0 0 " + most + " 1"}, {"1 0 -1 0 0 0", "0 -1 " + most + " 0"},
		{"-1 0 1 0 0 0", "-" + most + " 0 0 1"}, {"-1 0 -1 0 0 0", "-" + most + " -1 0 0"},
		{"0 1 0 1 0 0", "0 0 " + most + " 1"}, {"0 1 0 -1 0 0", "0 -1 " + most + " 0"},
		{"0 -1 0 1 0 0", "-" + most + " 0 0 1"}, {"0 -1 0 -1 0 0", "-" + most + " -1 0 0"},
		{"0.00001 0 0 1 0 0", "0 0 0.00001 1"}, {"1 0 0 1 1 0", "0 0 " + most + " 0"},
	} {
		m, b := matOf(t, x.m), boxOf(t, x.b)
		far := 0
		for _, p := range cornersOf(b) {
			if _, e := matrix.Map(m, p); e == api.ErrOver {
				far++
			}
		}
		if far == 0 || far == 4 {
			t.Errorf("P3.3: Map(%s, %s): %d corners are too far", x.m, x.b, far)
		}
		if got, e := box.Map(m, b); got != (api.Box{}) || e != api.ErrOver {
			t.Errorf("P3.3: Map(%s, %s): %v, %d", x.m, x.b, got, e)
		}
	}
}

func TestMapRefuses(t *testing.T) {
	great := strings.TrimSpace(strings.Repeat(most+" ", 6))
	for _, s := range []string{"0 0 0 0 0 0", "1 0 0 1 0 0", great} {
		for _, b := range wrong(t) {
			if got, e := box.Map(matOf(t, s), b); got != (api.Box{}) || e != api.ErrArg {
				t.Errorf("P3.3: Map(%s, %v): %v, %d", s, b, got, e)
			}
		}
	}
	for _, bad := range invalid {
		for i := range 6 {
			m := matOf(t, great)
			*[]*api.Dec{&m.A, &m.B, &m.C, &m.D, &m.E, &m.F}[i] = bad
			for _, b := range append(wrong(t), api.Box{}, whole(1, 1, 2, 2)) {
				if got, e := box.Map(m, b); got != (api.Box{}) || e != api.ErrArg {
					t.Errorf("P3.3: Map(%v, %v): %v, %d", m, b, got, e)
				}
			}
		}
	}
}

func TestMeetsIsSymmetricAndGrows(t *testing.T) {
	r := rand.New(rand.NewSource(3))
	met := 0
	for range 5000 {
		a, b, c := anyBox(r), anyBox(r), anyBox(r)
		one, e1 := box.Meets(a, b)
		other, e2 := box.Meets(b, a)
		if one != other || e1 != api.OK || e2 != api.OK {
			t.Fatalf("P3.4: Meets(%v, %v): %t, %d, the other way round %t, %d", a, b, one, e1, other, e2)
		}
		around, e := box.Both(b, c)
		if e != api.OK {
			t.Fatalf("P3.4: Both(%v, %v): %d", b, c, e)
		}
		if !one {
			continue
		}
		met++
		if got, e := box.Meets(a, around); !got || e != api.OK {
			t.Fatalf("P3.4: %v meets %v, but not %v: %d", a, b, around, e)
		}
	}
	if met < 500 {
		t.Errorf("P3.4: only %d met", met)
	}
}

func TestMapHoldsMappedPoints(t *testing.T) {
	r := rand.New(rand.NewSource(4))
	for range 5000 {
		m := api.Mat{A: decimal(r), B: decimal(r), C: decimal(r), D: decimal(r), E: decimal(r), F: decimal(r)}
		b := anyBox(r)
		p := within(r, b)
		around, e := box.Map(m, b)
		q, f := matrix.Map(m, p)
		if e != api.OK || f != api.OK {
			t.Fatalf("P3.4: Map(%v, %v): %d, of %v: %d", m, b, e, p, f)
		}
		if !holds(around, q) {
			t.Fatalf("P3.4: %v of %v is mapped by %v to %v, which is not in %v", p, b, m, q, around)
		}
	}
}
