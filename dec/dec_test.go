package dec

import (
	"math"
	"math/big"
	"math/rand"
	"strings"
	"testing"

	"erasure/api"
)

var invalid = []api.Dec{
	{M: 10, S: 1}, {M: -120, S: 2}, {S: 1}, {S: 9}, {M: 1, S: 10}, {M: 1, S: -1}, {S: -1},
	{M: api.MaxDec + 1}, {M: -api.MaxDec - 1}, {M: math.MaxInt}, {M: math.MinInt},
	{M: math.MinInt, S: 1}, {M: 1, S: math.MaxInt}, {M: 1, S: math.MinInt},
}

var edges = []api.Dec{
	{}, {M: 1}, {M: -1}, {M: 9}, {M: 10}, {M: -100}, {M: 5, S: 1}, {M: -5, S: 1}, {M: 25, S: 2},
	{M: 1, S: 5}, {M: 1, S: 9}, {M: -1, S: 9}, {M: 1000000000}, {M: 1900000000}, {M: -2000000000}, {M: 512}, {M: 1953125, S: 9},
	{M: api.MaxDec}, {M: -api.MaxDec}, {M: api.MaxDec - 1}, {M: api.MaxDec, S: 9}, {M: -api.MaxDec, S: 9},
	{M: api.MaxDec, S: 1}, {M: 999999999999999995, S: 1}, {M: -999999999999999995, S: 1},
	{M: 500000000000000000}, {M: 100000000000000000}, {M: 1 << 59}, {M: -(1 << 30)}, {M: 1000000001, S: 9},
}

// value tells what a decimal stands for.
func value(d api.Dec) *big.Rat {
	return new(big.Rat).SetFrac(big.NewInt(int64(d.M)), tenTo(d.S))
}

func tenTo(n int) *big.Int {
	return new(big.Int).Exp(big.NewInt(10), big.NewInt(int64(n)), nil)
}

// exact returns the decimal of r by the definition: the first scale at which
// r is whole is the only one at which its decimal can be valid.
func exact(r *big.Rat) (api.Dec, api.Errno) {
	for s := 0; s <= api.MaxScale; s++ {
		x := new(big.Rat).Mul(r, new(big.Rat).SetInt(tenTo(s)))
		if !x.IsInt() {
			continue
		}
		if new(big.Int).Abs(x.Num()).Cmp(big.NewInt(api.MaxDec)) > 0 {
			return api.Dec{}, api.ErrOver
		}
		return api.Dec{M: int(x.Num().Int64()), S: s}, api.OK
	}
	return api.Dec{}, api.ErrOver
}

// decimals returns the edges and others, always the same ones.
func decimals(others int) []api.Dec {
	r := rand.New(rand.NewSource(1))
	l := append([]api.Dec(nil), edges...)
	for range others {
		m := r.Int63n(int64(tenTo(r.Intn(19)).Int64()))
		d, e := exact(new(big.Rat).SetFrac(big.NewInt(m*int64(1-2*r.Intn(2))), tenTo(r.Intn(10))))
		if e == api.OK {
			l = append(l, d)
		}
	}
	return l
}

func TestCheck(t *testing.T) {
	for _, d := range invalid {
		if e := Check(d); e != api.ErrArg {
			t.Errorf("P1.1: Check(%v): %d", d, e)
		}
	}
	for _, d := range edges {
		if e := Check(d); e != api.OK {
			t.Errorf("P1.1: Check(%v): %d", d, e)
		}
	}
}

func TestMake(t *testing.T) {
	for _, x := range []struct {
		m, s int
		want api.Dec
		e    api.Errno
	}{
		{0, 0, api.Dec{}, api.OK}, {0, 18, api.Dec{}, api.OK}, {1500, 3, api.Dec{M: 15, S: 1}, api.OK}, {-1500, 2, api.Dec{M: -15}, api.OK},
		{1500, 0, api.Dec{M: 1500}, api.OK}, {1, 9, api.Dec{M: 1, S: 9}, api.OK}, {1000000000, 18, api.Dec{M: 1, S: 9}, api.OK},
		{-100000000000000000, 18, api.Dec{M: -1, S: 1}, api.OK},
		{api.MaxDec, 0, api.Dec{M: api.MaxDec}, api.OK}, {-api.MaxDec, 9, api.Dec{M: -api.MaxDec, S: 9}, api.OK},
		{1, 10, api.Dec{}, api.ErrOver}, {100000000, 18, api.Dec{}, api.ErrOver}, {-1, 18, api.Dec{}, api.ErrOver}, {api.MaxDec, 10, api.Dec{}, api.ErrOver},
		{1, 19, api.Dec{}, api.ErrArg}, {0, 19, api.Dec{}, api.ErrArg}, {1, -1, api.Dec{}, api.ErrArg}, {0, math.MinInt, api.Dec{}, api.ErrArg}, {0, math.MaxInt, api.Dec{}, api.ErrArg},
		{api.MaxDec + 1, 0, api.Dec{}, api.ErrArg}, {api.MaxDec + 1, 18, api.Dec{}, api.ErrArg}, {-api.MaxDec - 1, 1, api.Dec{}, api.ErrArg},
		{math.MinInt, 0, api.Dec{}, api.ErrArg}, {math.MaxInt, 0, api.Dec{}, api.ErrArg},
	} {
		if d, e := Make(x.m, x.s); d != x.want || e != x.e {
			t.Errorf("P1.1: Make(%d, %d): %v, %d, want %v, %d", x.m, x.s, d, e, x.want, x.e)
		}
	}
}

func TestMakeAgreesWithDefinition(t *testing.T) {
	for _, d := range decimals(300) {
		for s := 0; s <= 18; s++ {
			want, wantErr := exact(new(big.Rat).SetFrac(big.NewInt(int64(d.M)), tenTo(s)))
			if got, e := Make(d.M, s); got != want || e != wantErr {
				t.Errorf("P1.1: Make(%d, %d): %v, %d, want %v, %d", d.M, s, got, e, want, wantErr)
			}
		}
	}
}

func TestParse(t *testing.T) {
	zeros := strings.Repeat("0", 38)
	for s, want := range map[string]api.Dec{
		"0": {}, "-0": {}, "+0": {}, "-.0": {}, "0.": {}, ".0": {}, "00": {}, "-0.000": {},
		"7": {M: 7}, "+7.": {M: 7}, "-7": {M: -7}, "007": {M: 7}, "120": {M: 120}, "12.50": {M: 125, S: 1}, "-00.50": {M: -5, S: 1},
		".5": {M: 5, S: 1}, "+.5": {M: 5, S: 1}, "-.05": {M: -5, S: 2}, "1.05": {M: 105, S: 2}, "100.001": {M: 100001, S: 3}, "10.0": {M: 10},
		"0.000000001": {M: 1, S: 9}, "0.0000000010": {M: 1, S: 9}, "-999999999.999999999": {M: -api.MaxDec, S: 9},
		"999999999999999999": {M: api.MaxDec}, "-999999999999999999": {M: -api.MaxDec}, "999999999999999999.0": {M: api.MaxDec}, "99999999999999999.9": {M: api.MaxDec, S: 1},
		"1.00000000000000000000": {M: 1}, "000000000000000000000001": {M: 1},
		zeros + "10": {M: 10}, "-." + zeros: {}, "1." + zeros: {M: 1}, zeros[:37] + ".05": {M: 5, S: 2}, "+" + zeros + ".": {},
	} {
		if d, e := Parse(s); d != want || e != api.OK {
			t.Errorf("P1.2: Parse(%q): %v, %d, want %v", s, d, e, want)
		}
	}
}

func TestParseRefuses(t *testing.T) {
	for s, want := range map[string]api.Errno{
		"": api.ErrForm, ".": api.ErrForm, "+": api.ErrForm, "-": api.ErrForm, "+.": api.ErrForm, "-.": api.ErrForm, "..": api.ErrForm,
		"1.2.3": api.ErrForm, "1..": api.ErrForm, "..1": api.ErrForm, ".1.": api.ErrForm, "1.0.": api.ErrForm, "0.0.0": api.ErrForm,
		"--1": api.ErrForm, "+-1": api.ErrForm, "-+1": api.ErrForm, "++1": api.ErrForm, "1-": api.ErrForm, "1+1": api.ErrForm, ".-1": api.ErrForm,
		"1e5": api.ErrForm, "0x1": api.ErrForm, "1_0": api.ErrForm, " 1": api.ErrForm, "1 ": api.ErrForm, "1\n": api.ErrForm, "1,5": api.ErrForm, "1/2": api.ErrForm, "1:": api.ErrForm,
		"\x00": api.ErrForm, "1\xb2": api.ErrForm, "\u0661": api.ErrForm, "\xff": api.ErrForm, "Inf": api.ErrForm,
		strings.Repeat("0", 41): api.ErrForm, "." + strings.Repeat("0", 40): api.ErrForm, "-" + strings.Repeat("1", 40): api.ErrForm, strings.Repeat("9", 1000): api.ErrForm,
		"1000000000000000000": api.ErrOver, "-1000000000000000000": api.ErrOver, "1000000000000000000.0": api.ErrOver, "9223372036854775808": api.ErrOver, "18446744073709551617": api.ErrOver,
		"99999999999999999.123": api.ErrOver, "999999999999999999.1": api.ErrOver, "1234567890.123456789": api.ErrOver,
		"1.0000000001": api.ErrOver, "0.0000000001": api.ErrOver, "-0.00000000010": api.ErrOver, strings.Repeat("9", 40): api.ErrOver, "." + strings.Repeat("9", 39): api.ErrOver,
		"1000000000000000000x": api.ErrForm, "10000000000000000000.1.": api.ErrForm, "0.00000000001-": api.ErrForm, "x1000000000000000000": api.ErrForm,
	} {
		if d, e := Parse(s); d != (api.Dec{}) || e != want {
			t.Errorf("P1.2: Parse(%q): %v, %d, want %d", s, d, e, want)
		}
	}
}

func TestParseAgreesWithDefinition(t *testing.T) {
	r := rand.New(rand.NewSource(2))
	for range 20000 {
		whole, part := digits(r, r.Intn(21)), digits(r, r.Intn(19))
		if whole+part == "" {
			continue
		}
		s := []string{"", "+", "-"}[r.Intn(3)] + whole + "." + part
		v, ok := new(big.Rat).SetString(s)
		if !ok {
			t.Fatalf("no number: %q", s)
		}
		want, wantErr := exact(v)
		if d, e := Parse(s); d != want || e != wantErr {
			t.Errorf("P1.2: Parse(%q): %v, %d, want %v, %d", s, d, e, want, wantErr)
		}
	}
}

// digits returns n of them, many of them 0.
func digits(r *rand.Rand, n int) string {
	b := make([]byte, n)
	for i := range b {
		b[i] = "00000123456789"[r.Intn(14)]
	}
	return string(b)
}

func TestPrint(t *testing.T) {
	for s, d := range map[string]api.Dec{
		"0": {}, "7": {M: 7}, "-7": {M: -7}, "100": {M: 100}, "0.5": {M: 5, S: 1}, "-0.5": {M: -5, S: 1}, "0.001": {M: 1, S: 3}, "-0.012": {M: -12, S: 3},
		"12.5": {M: 125, S: 1}, "1.05": {M: 105, S: 2}, "-12.34": {M: -1234, S: 2}, "0.000000001": {M: 1, S: 9}, "0.123456789": {M: 123456789, S: 9}, "1.000000001": {M: 1000000001, S: 9},
		"999999999999999999": {M: api.MaxDec}, "-999999999999999999": {M: -api.MaxDec}, "-999999999.999999999": {M: -api.MaxDec, S: 9},
	} {
		if got, e := Print(d); got != s || e != api.OK {
			t.Errorf("P1.2: Print(%v): %q, %d, want %q", d, got, e, s)
		}
	}
	for _, d := range invalid {
		if s, e := Print(d); s != "" || e != api.ErrArg {
			t.Errorf("P1.2: Print(%v): %q, %d", d, s, e)
		}
	}
}

func TestInvalidOperands(t *testing.T) {
	for _, bad := range invalid {
		if d, e := Neg(bad); d != (api.Dec{}) || e != api.ErrArg {
			t.Errorf("P1.3: Neg(%v): %v, %d", bad, d, e)
		}
		for _, other := range append(invalid, edges...) {
			refused(t, bad, other)
			refused(t, other, bad)
		}
	}
}

func refused(t *testing.T, a, b api.Dec) {
	t.Helper()
	if d, e := Add(a, b); d != (api.Dec{}) || e != api.ErrArg {
		t.Errorf("P1.3: Add(%v, %v): %v, %d", a, b, d, e)
	}
	if d, e := Mul(a, b); d != (api.Dec{}) || e != api.ErrArg {
		t.Errorf("P1.3: Mul(%v, %v): %v, %d", a, b, d, e)
	}
	if n, e := Compare(a, b); n != 0 || e != api.ErrArg {
		t.Errorf("P1.3: Compare(%v, %v): %d, %d", a, b, n, e)
	}
}

func TestOperationsByHand(t *testing.T) {
	for _, x := range []struct {
		a, b         string
		sum, product string // empty: ErrOver
		order        int
	}{
		{"0", "0", "0", "0", 0}, {"0.5", "0.5", "1", "0.25", 0}, {"0.00001", "0.00001", "0.00002", "", 0},
		{"-1.5", "1", "-0.5", "-1.5", -1}, {"-2.5", "-4", "-6.5", "10", 1}, {"0.1", "0.01", "0.11", "0.001", 1}, {"-0.2", "0.1", "-0.1", "-0.02", -1},
		{"0.00001", "0.0001", "0.00011", "0.000000001", -1}, {"0.00002", "0.00005", "0.00007", "0.000000001", -1},
		{"999999999999999999", "1", "", "999999999999999999", 1}, {"999999999999999999", "-1", "999999999999999998", "-999999999999999999", 1},
		{"999999999999999999", "-999999999999999999", "0", "", 1}, {"999999999999999999", "0.5", "", "", 1}, {"999999999999999999", "0", "999999999999999999", "0", 1},
		// The sum is only short enough once its zeros are gone.
		{"99999999999999999.5", "99999999999999999.5", "199999999999999999", "", 0},
		// A common scale of both exceeds MaxDec, the sum does not.
		{"1000000000", "-0.000000001", "999999999.999999999", "-1", 1}, {"1900000000", "-999999999.999999999", "900000000.000000001", "", 1},
		{"1000000000", "0.000000001", "", "1", 1}, {"-2000000000", "999999999.999999999", "", "", -1}, {"999999999999999999", "-999999999.999999999", "", "", 1},
		{"0.000000001", "100000000", "100000000.000000001", "0.1", -1}, {"0.000000001", "0.000000001", "0.000000002", "", 0},
		{"1000000000", "1000000000", "2000000000", "", 0}, {"1000000000", "999999999", "1999999999", "999999999000000000", 1},
		// 2^64 and 2^65 wrap round to small numbers in a word.
		{"4294967296", "4294967296", "8589934592", "", 0}, {"8589934592", "4294967296", "12884901888", "", 1},
	} {
		a, b := parsed(t, x.a), parsed(t, x.b)
		sum, e := Add(a, b)
		told(t, "Add", x.a, x.b, x.sum, sum, e)
		product, e := Mul(a, b)
		told(t, "Mul", x.a, x.b, x.product, product, e)
		if n, e := Compare(a, b); n != x.order || e != api.OK {
			t.Errorf("P1.3: Compare(%s, %s): %d, %d", x.a, x.b, n, e)
		}
	}
}

func parsed(t *testing.T, s string) api.Dec {
	t.Helper()
	d, e := Parse(s)
	if e != api.OK {
		t.Fatalf("P1.2: Parse(%q): %d", s, e)
	}
	return d
}

func told(t *testing.T, call, a, b, want string, d api.Dec, e api.Errno) {
	t.Helper()
	if want == "" {
		if d != (api.Dec{}) || e != api.ErrOver {
			t.Errorf("P1.3: %s(%s, %s): %v, %d, want ErrOver", call, a, b, d, e)
		}
		return
	}
	if d != parsed(t, want) || e != api.OK {
		t.Errorf("P1.3: %s(%s, %s): %v, %d, want %s", call, a, b, d, e, want)
	}
}

func TestOperationsAgreeWithDefinition(t *testing.T) {
	l := decimals(300)
	for _, a := range l {
		if d, e := Neg(a); d != (api.Dec{M: -a.M, S: a.S}) || e != api.OK {
			t.Errorf("P1.3: Neg(%v): %v, %d", a, d, e)
		}
		for _, b := range l {
			agrees(t, a, b)
		}
	}
}

func agrees(t *testing.T, a, b api.Dec) {
	t.Helper()
	x, y := value(a), value(b)
	want, wantErr := exact(new(big.Rat).Add(x, y))
	if d, e := Add(a, b); d != want || e != wantErr {
		t.Errorf("P1.3: Add(%v, %v): %v, %d, want %v, %d", a, b, d, e, want, wantErr)
	}
	want, wantErr = exact(new(big.Rat).Mul(x, y))
	if d, e := Mul(a, b); d != want || e != wantErr {
		t.Errorf("P1.3: Mul(%v, %v): %v, %d, want %v, %d", a, b, d, e, want, wantErr)
	}
	if n, e := Compare(a, b); n != x.Cmp(y) || e != api.OK {
		t.Errorf("P1.3: Compare(%v, %v): %d, %d, want %d", a, b, n, e, x.Cmp(y))
	}
}

func TestPrintIsParsed(t *testing.T) {
	for _, d := range decimals(2000) {
		s, e := Print(d)
		if e != api.OK {
			t.Errorf("P1.4: Print(%v): %d", d, e)
		}
		if got, e := Parse(s); got != d || e != api.OK {
			t.Errorf("P1.4: Parse(Print(%v)): %v, %d", d, got, e)
		}
	}
}

func TestOrderAndCommutativity(t *testing.T) {
	l := decimals(150)
	for _, a := range l {
		for _, b := range l {
			commutes(t, a, b)
			minus, _ := Neg(b)
			n, _ := Compare(a, b)
			if d, e := Add(a, minus); e == api.OK && sign(d.M) != n {
				t.Errorf("P1.4: Compare(%v, %v): %d, but the difference is %v", a, b, n, d)
			}
			if m, _ := Compare(b, a); m != -n || (n == 0) != (a == b) {
				t.Errorf("P1.4: Compare(%v, %v): %d, the other way round %d", a, b, n, m)
			}
		}
	}
}

func commutes(t *testing.T, a, b api.Dec) {
	t.Helper()
	sum, e := Add(a, b)
	if other, f := Add(b, a); sum != other || e != f {
		t.Errorf("P1.4: Add(%v, %v): %v, %d, the other way round %v, %d", a, b, sum, e, other, f)
	}
	product, e := Mul(a, b)
	if other, f := Mul(b, a); product != other || e != f {
		t.Errorf("P1.4: Mul(%v, %v): %v, %d, the other way round %v, %d", a, b, product, e, other, f)
	}
}

func sign(m int) int {
	switch {
	case m < 0:
		return -1
	case m > 0:
		return 1
	}
	return 0
}

func TestAssociativityAndDistributivity(t *testing.T) {
	l := decimals(25)
	for _, a := range l {
		for _, b := range l {
			for _, c := range l {
				associates(t, "Add", Add, a, b, c)
				associates(t, "Mul", Mul, a, b, c)
				distributes(t, a, b, c)
			}
		}
	}
}

type operation func(a, b api.Dec) (api.Dec, api.Errno)

func associates(t *testing.T, name string, do operation, a, b, c api.Dec) {
	t.Helper()
	ab, e1 := do(a, b)
	left, e2 := do(ab, c)
	bc, e3 := do(b, c)
	right, e4 := do(a, bc)
	if e1 == api.OK && e2 == api.OK && e3 == api.OK && e4 == api.OK && left != right {
		t.Errorf("P1.4: %s of %v, %v, %v: %v or %v", name, a, b, c, left, right)
	}
}

func distributes(t *testing.T, a, b, c api.Dec) {
	t.Helper()
	sum, e1 := Add(b, c)
	left, e2 := Mul(a, sum)
	ab, e3 := Mul(a, b)
	ac, e4 := Mul(a, c)
	right, e5 := Add(ab, ac)
	if e1 == api.OK && e2 == api.OK && e3 == api.OK && e4 == api.OK && e5 == api.OK && left != right {
		t.Errorf("P1.4: %v times the sum of %v and %v: %v or %v", a, b, c, left, right)
	}
}
