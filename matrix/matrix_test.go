package matrix_test

import (
	"math"
	"math/rand"
	"strings"
	"testing"

	"erasure/api"
	"erasure/dec"
	"erasure/matrix"
)

var invalid = []api.Dec{
	{M: 10, S: 1}, {M: -120, S: 2}, {S: 1}, {M: 1, S: 10}, {M: 1, S: -1},
	{M: api.MaxDec + 1}, {M: -api.MaxDec - 1}, {M: math.MaxInt}, {M: math.MinInt}, {M: 1, S: math.MinInt},
}

const most = "999999999999999999"

// number returns the decimal of a numeral.
func number(t *testing.T, s string) api.Dec {
	t.Helper()
	d, e := dec.Parse(s)
	if e != api.OK {
		t.Fatalf("Parse(%q): %d", s, e)
	}
	return d
}

// mat returns the matrix of six numerals.
func mat(t *testing.T, s string) api.Mat {
	t.Helper()
	l := strings.Fields(s)
	if len(l) != 6 {
		t.Fatalf("not six numbers: %q", s)
	}
	m := api.Mat{}
	for i, d := range places(&m) {
		*d = number(t, l[i])
	}
	return m
}

// point returns the point of two numerals.
func point(t *testing.T, s string) api.Point {
	t.Helper()
	l := strings.Fields(s)
	if len(l) != 2 {
		t.Fatalf("not two numbers: %q", s)
	}
	return api.Point{X: number(t, l[0]), Y: number(t, l[1])}
}

// places tells where the numbers of m are, from A to F.
func places(m *api.Mat) []*api.Dec {
	return []*api.Dec{&m.A, &m.B, &m.C, &m.D, &m.E, &m.F}
}

// reference evaluates a * b + c * d + last as the document says it.
func reference(a, b, c, d, last api.Dec) (api.Dec, api.Errno) {
	ab, e1 := dec.Mul(a, b)
	cd, e2 := dec.Mul(c, d)
	if e1 != api.OK || e2 != api.OK {
		return api.Dec{}, api.ErrOver
	}
	both, e := dec.Add(ab, cd)
	if e != api.OK {
		return api.Dec{}, api.ErrOver
	}
	return dec.Add(both, last)
}

// wantMap is Map of what is valid.
func wantMap(m api.Mat, p api.Point) (api.Point, api.Errno) {
	x, e1 := reference(m.A, p.X, m.C, p.Y, m.E)
	y, e2 := reference(m.B, p.X, m.D, p.Y, m.F)
	if e1 != api.OK || e2 != api.OK {
		return api.Point{}, api.ErrOver
	}
	return api.Point{X: x, Y: y}, api.OK
}

// wantThen is Then of what is valid: each row of m goes through n, and only
// the last one is moved.
func wantThen(m, n api.Mat) (api.Mat, api.Errno) {
	still := n
	still.E, still.F = api.Dec{}, api.Dec{}
	ab, e1 := wantMap(still, api.Point{X: m.A, Y: m.B})
	cd, e2 := wantMap(still, api.Point{X: m.C, Y: m.D})
	ef, e3 := wantMap(n, api.Point{X: m.E, Y: m.F})
	if e1 != api.OK || e2 != api.OK || e3 != api.OK {
		return api.Mat{}, api.ErrOver
	}
	return api.Mat{A: ab.X, B: ab.Y, C: cd.X, D: cd.Y, E: ef.X, F: ef.Y}, api.OK
}

// decimal returns a valid one that is often short, and sometimes too long to be multiplied.
func decimal(r *rand.Rand) api.Dec {
	digits := []int{1, 1, 2, 2, 3, 9, 18}[r.Intn(7)]
	m := int(r.Float64() * math.Pow10(digits))
	if r.Intn(2) == 0 {
		m = -m
	}
	d, e := dec.Make(m, r.Intn(min(digits, 4)))
	if e != api.OK {
		return api.Dec{}
	}
	return d
}

func anyMat(r *rand.Rand) api.Mat {
	m := api.Mat{}
	for _, d := range places(&m) {
		*d = decimal(r)
	}
	return m
}

func anyPoint(r *rand.Rand) api.Point {
	return api.Point{X: decimal(r), Y: decimal(r)}
}

func TestOne(t *testing.T) {
	if m, want := matrix.One(), mat(t, "1 0 0 1 0 0"); m != want {
		t.Errorf("P2.1: One(): %v", m)
	}
}

func TestCheck(t *testing.T) {
	for _, s := range []string{"0 0 0 0 0 0", "1 0 0 1 0 0", "1 2 3 4 5 6", "-0.5 .000000001 0 -1 7 8", strings.Repeat(most+" ", 6), strings.Repeat("-"+most+" ", 6)} {
		if e := matrix.Check(mat(t, s)); e != api.OK {
			t.Errorf("P2.1: Check(%s): %d", s, e)
		}
	}
	for i := range 6 {
		for _, bad := range invalid {
			m := matrix.One()
			*places(&m)[i] = bad
			if e := matrix.Check(m); e != api.ErrArg {
				t.Errorf("P2.1: Check(%v): %d", m, e)
			}
		}
	}
}

func TestStep(t *testing.T) {
	for _, s := range []string{"0 0", "1 0", "0 1", "3 -4.5", most + " -" + most, "0.000000001 100"} {
		p := point(t, s)
		want := mat(t, "1 0 0 1 "+s)
		if m, e := matrix.Step(p.X, p.Y); m != want || e != api.OK {
			t.Errorf("P2.1: Step(%s): %v, %d", s, m, e)
		}
	}
	for _, bad := range invalid {
		for _, p := range []api.Point{{X: bad}, {Y: bad}, {X: bad, Y: bad}} {
			if m, e := matrix.Step(p.X, p.Y); m != (api.Mat{}) || e != api.ErrArg {
				t.Errorf("P2.1: Step(%v, %v): %v, %d", p.X, p.Y, m, e)
			}
		}
	}
}

func TestMap(t *testing.T) {
	for _, x := range []struct{ m, p, want string }{
		{"2 0 0 2 1 1", "3 4", "7 9"},
		{"2 3 5 7 11 13", "17 19", "140 197"},
		{"0 1 -1 0 0 0", "2 1", "-1 2"},
		{"0 0 0 0 5 6", most + " " + most, "5 6"},
		{"0.5 0 0 -0.25 0 10", "3 8", "1.5 8"},
		{"1 0 0 1 -1 1", most + " -" + most, "999999999999999998 -999999999999999998"},
		// The second product and the last number together are too great, but nobody adds those two.
		{"1 0 1 0 1 0", "-5 " + most, "999999999999999995 0"},
		{"0 1 0 1 0 1", "-5 " + most, "0 999999999999999995"},
	} {
		want := point(t, x.want)
		if p, e := matrix.Map(mat(t, x.m), point(t, x.p)); p != want || e != api.OK {
			t.Errorf("P2.2: Map(%s, %s): %v, %d, want %s", x.m, x.p, p, e, x.want)
		}
	}
}

func TestMapRefuses(t *testing.T) {
	p := point(t, "3 4")
	for _, bad := range invalid {
		for i := range 6 {
			// With the greatest numbers, so that ErrOver would apply as well.
			m := mat(t, strings.Repeat(most+" ", 6))
			*places(&m)[i] = bad
			if q, e := matrix.Map(m, p); q != (api.Point{}) || e != api.ErrArg {
				t.Errorf("P2.2: Map(%v, %v): %v, %d", m, p, q, e)
			}
		}
		for _, p := range []api.Point{{X: bad}, {Y: bad}, {X: bad, Y: number(t, most)}, {X: number(t, most), Y: bad}} {
			for _, s := range []string{"0 0 0 0 0 0", "1 0 0 1 0 0", strings.Repeat(most+" ", 6)} {
				if q, e := matrix.Map(mat(t, s), p); q != (api.Point{}) || e != api.ErrArg {
					t.Errorf("P2.2: Map(%s, %v): %v, %d", s, p, q, e)
				}
			}
		}
	}
}

// over lists expressions a * b + c * d + last of which exactly one result on
// the way is not representable.
var over = []struct{ a, b, c, d, last string }{
	{most, "2", "0", "0", "0"}, {"0.00001", "-0.00001", "0", "0", "0"},
	{"0", "0", most, "-2", "0"}, {"0", "0", "0.00001", "0.00001", "0"},
	// The products are not, the sum of them would be.
	{most, "2", most, "-2", "0"}, {"0.00001", "0.00001", "-0.00001", "0.00001", "0"}, {"0.00001", "0.00005", "0.00001", "0.00005", "0"},
	{most, "1", "1", "1", "0"}, {"-" + most, "1", "-1", "0.5", "0"},
	// The sum of the products is not, with the last number it would be.
	{most, "1", "1", "1", "-1"}, {most, "-1", "1", "-1", "1"}, {most, "1", "0.5", "1", "-0.5"},
	{most, "1", "0", "0", "1"}, {"0", "0", most, "1", "1"}, {"999999999999999998", "1", "1", "1", "1"}, {"0", "0", most, "-1", "-0.1"},
}

func TestMapOver(t *testing.T) {
	for _, x := range over {
		p := point(t, x.b+" "+x.d)
		for _, s := range []string{
			x.a + " 0 " + x.c + " 0 " + x.last + " 0",
			"0 " + x.a + " 0 " + x.c + " 0 " + x.last,
		} {
			if q, e := matrix.Map(mat(t, s), p); q != (api.Point{}) || e != api.ErrOver {
				t.Errorf("P2.2: Map(%s, %v): %v, %d", s, p, q, e)
			}
		}
	}
}

func TestMapAgreesWithDefinition(t *testing.T) {
	r := rand.New(rand.NewSource(1))
	for range 20000 {
		m, p := anyMat(r), anyPoint(r)
		want, wantErr := wantMap(m, p)
		if got, e := matrix.Map(m, p); got != want || e != wantErr {
			t.Fatalf("P2.2: Map(%v, %v): %v, %d, want %v, %d", m, p, got, e, want, wantErr)
		}
	}
}

func TestThen(t *testing.T) {
	for _, x := range []struct{ m, n, want string }{
		{"1 0 0 1 1 0", "2 0 0 2 0 0", "2 0 0 2 2 0"},
		{"2 0 0 2 0 0", "1 0 0 1 1 0", "2 0 0 2 1 0"},
		{"2 3 5 7 11 13", "17 19 23 29 31 37", "103 125 246 298 517 623"},
		{"17 19 23 29 31 37", "2 3 5 7 11 13", "129 184 191 272 258 365"},
		{"0 1 -1 0 2 3", "0 1 -1 0 5 7", "-1 0 0 -1 2 9"},
		{"0.5 0 0 0.5 0 0", "0.5 0 0 0.1 0.25 0", "0.25 0 0 0.05 0.25 0"},
		{"1 0 0 1 0 0", most + " 0 0 " + most + " " + most + " " + most, most + " 0 0 " + most + " " + most + " " + most},
		{"0 0 0 0 -5 " + most, "1 1 1 1 1 1", "0 0 0 0 999999999999999995 999999999999999995"},
	} {
		want := mat(t, x.want)
		if m, e := matrix.Then(mat(t, x.m), mat(t, x.n)); m != want || e != api.OK {
			t.Errorf("P2.3: Then(%s, %s): %v, %d, want %s", x.m, x.n, m, e, x.want)
		}
	}
}

func TestThenRefuses(t *testing.T) {
	for _, bad := range invalid {
		for i := range 6 {
			m := mat(t, strings.Repeat(most+" ", 6))
			*places(&m)[i] = bad
			for _, s := range []string{"0 0 0 0 0 0", "1 0 0 1 0 0", strings.Repeat(most+" ", 6)} {
				other := mat(t, s)
				if n, e := matrix.Then(m, other); n != (api.Mat{}) || e != api.ErrArg {
					t.Errorf("P2.3: Then(%v, %v): %v, %d", m, other, n, e)
				}
				if n, e := matrix.Then(other, m); n != (api.Mat{}) || e != api.ErrArg {
					t.Errorf("P2.3: Then(%v, %v): %v, %d", other, m, n, e)
				}
			}
		}
	}
}

func TestThenOver(t *testing.T) {
	for _, x := range over {
		right := [2]string{x.b + " 0 " + x.d + " 0 " + x.last + " 0", "0 " + x.b + " 0 " + x.d + " 0 " + x.last}
		left := []string{"0 0 0 0 " + x.a + " " + x.c}
		if x.last == "0" { // nothing is added to the first four elements
			left = append(left, x.a+" "+x.c+" 0 0 0 0", "0 0 "+x.a+" "+x.c+" 0 0")
		}
		for _, n := range right {
			for _, m := range left {
				if got, e := matrix.Then(mat(t, m), mat(t, n)); got != (api.Mat{}) || e != api.ErrOver {
					t.Errorf("P2.3: Then(%s, %s): %v, %d", m, n, got, e)
				}
			}
		}
	}
}

func TestThenAgreesWithDefinition(t *testing.T) {
	r := rand.New(rand.NewSource(2))
	for range 20000 {
		m, n := anyMat(r), anyMat(r)
		want, wantErr := wantThen(m, n)
		if got, e := matrix.Then(m, n); got != want || e != wantErr {
			t.Fatalf("P2.3: Then(%v, %v): %v, %d, want %v, %d", m, n, got, e, want, wantErr)
		}
	}
}

func TestThenMapsOneAfterTheOther(t *testing.T) {
	r := rand.New(rand.NewSource(3))
	held := 0
	for range 20000 {
		m, n, p := anyMat(r), anyMat(r), anyPoint(r)
		both, e1 := matrix.Then(m, n)
		left, e2 := matrix.Map(both, p)
		middle, e3 := matrix.Map(m, p)
		right, e4 := matrix.Map(n, middle)
		if e1 != api.OK || e2 != api.OK || e3 != api.OK || e4 != api.OK {
			continue
		}
		held++
		if left != right {
			t.Fatalf("P2.4: %v by %v and %v: %v or %v", p, m, n, left, right)
		}
	}
	if held < 1000 {
		t.Errorf("P2.4: only %d were representable", held)
	}
}

func TestOneChangesNothing(t *testing.T) {
	r := rand.New(rand.NewSource(4))
	points := []api.Point{point(t, most+" -"+most), point(t, "0.000000001 999999999.999999999"), point(t, "0 0")}
	for range 200 {
		points = append(points, anyPoint(r))
	}
	for _, p := range points {
		if q, e := matrix.Map(matrix.One(), p); q != p || e != api.OK {
			t.Errorf("P2.4: Map(One, %v): %v, %d", p, q, e)
		}
		m := anyMat(r)
		if n, e := matrix.Then(matrix.One(), m); n != m || e != api.OK {
			t.Errorf("P2.4: Then(One, %v): %v, %d", m, n, e)
		}
		if n, e := matrix.Then(m, matrix.One()); n != m || e != api.OK {
			t.Errorf("P2.4: Then(%v, One): %v, %d", m, n, e)
		}
	}
}

func TestTranslationsAddUp(t *testing.T) {
	r := rand.New(rand.NewSource(5))
	for range 2000 {
		p, q := anyPoint(r), anyPoint(r)
		first, _ := matrix.Step(p.X, p.Y)
		second, _ := matrix.Step(q.X, q.Y)
		got, e := matrix.Then(first, second)
		x, e1 := dec.Add(p.X, q.X)
		y, e2 := dec.Add(p.Y, q.Y)
		if e1 != api.OK || e2 != api.OK {
			if got != (api.Mat{}) || e != api.ErrOver {
				t.Errorf("P2.4: steps of %v and %v: %v, %d", p, q, got, e)
			}
			continue
		}
		if want, _ := matrix.Step(x, y); got != want || e != api.OK {
			t.Errorf("P2.4: steps of %v and %v: %v, %d", p, q, got, e)
		}
	}
}
