// Package dec implements decimal numbers whose operations are exact or fail (layer 1).
package dec

import (
	"cmp"
	"math/bits"
	"strconv"
	"strings"

	"erasure/api"
)

const (
	maxNumeral = 40 // bytes of a numeral
	maxMake    = 18 // digits behind the point that Make takes
)

// Check tells whether d is valid.
func Check(d api.Dec) api.Errno {
	if !inBounds(d.M) || d.S < 0 || d.S > api.MaxScale {
		return api.ErrArg
	}
	if d.S > 0 && d.M%10 == 0 {
		return api.ErrArg
	}
	return api.OK
}

// Make returns the decimal of m / 10^s.
func Make(m int, s int) (api.Dec, api.Errno) {
	if s < 0 || s > maxMake || !inBounds(m) {
		return api.Dec{}, api.ErrArg
	}
	return settle(m < 0, 0, magnitude(m), s)
}

// Parse returns the decimal of a numeral.
func Parse(t string) (api.Dec, api.Errno) {
	if len(t) > maxNumeral {
		return api.Dec{}, api.ErrForm
	}
	sign, body := cutSign(t)
	whole, part, _ := strings.Cut(body, ".")
	if whole+part == "" {
		return api.Dec{}, api.ErrForm
	}
	// Zeros at the end would make a representable number look too long.
	part = strings.TrimRight(part, "0")
	m, e := read(whole + part)
	if e != api.OK {
		return api.Dec{}, e
	}
	if len(part) > api.MaxScale {
		return api.Dec{}, api.ErrOver
	}
	return api.Dec{M: sign * m, S: len(part)}, api.OK
}

// Print returns the shortest numeral of d.
func Print(d api.Dec) (string, api.Errno) {
	if e := Check(d); e != api.OK {
		return "", e
	}
	sign := ""
	if d.M < 0 {
		sign = "-"
	}
	row := strconv.FormatUint(magnitude(d.M), 10)
	if d.S == 0 {
		return sign + row, api.OK
	}
	if missing := d.S + 1 - len(row); missing > 0 {
		row = strings.Repeat("0", missing) + row
	}
	point := len(row) - d.S
	return sign + row[:point] + "." + row[point:], api.OK
}

// Add returns a + b.
func Add(a api.Dec, b api.Dec) (api.Dec, api.Errno) {
	if e := checkBoth(a, b); e != api.OK {
		return api.Dec{}, e
	}
	s := max(a.S, b.S)
	m, fits := widen(a, s)
	n, alsoFits := widen(b, s)
	if !fits || !alsoFits {
		return api.Dec{}, api.ErrOver
	}
	return settle(m+n < 0, 0, magnitude(m+n), s)
}

// Neg returns -a.
func Neg(a api.Dec) (api.Dec, api.Errno) {
	if e := Check(a); e != api.OK {
		return api.Dec{}, e
	}
	return api.Dec{M: -a.M, S: a.S}, api.OK
}

// Mul returns a * b.
func Mul(a api.Dec, b api.Dec) (api.Dec, api.Errno) {
	if e := checkBoth(a, b); e != api.OK {
		return api.Dec{}, e
	}
	high, low := bits.Mul64(magnitude(a.M), magnitude(b.M))
	return settle((a.M < 0) != (b.M < 0), high, low, a.S+b.S)
}

// Compare returns -1, 0 or 1 if a is less than, equal to or greater than b.
func Compare(a api.Dec, b api.Dec) (int, api.Errno) {
	if e := checkBoth(a, b); e != api.OK {
		return 0, e
	}
	// Whole parts and fractions are compared one after the other, since a
	// common scale for both numbers could exceed an int.
	if c := cmp.Compare(a.M/power(a.S), b.M/power(b.S)); c != 0 {
		return c, api.OK
	}
	return cmp.Compare(fraction(a), fraction(b)), api.OK
}

func checkBoth(a api.Dec, b api.Dec) api.Errno {
	if e := Check(a); e != api.OK {
		return e
	}
	return Check(b)
}

func inBounds(m int) bool {
	return -api.MaxDec <= m && m <= api.MaxDec
}

func magnitude(m int) uint64 {
	if m < 0 {
		return uint64(-m)
	}
	return uint64(m)
}

// power returns 10^n.
func power(n int) int {
	p := 1
	for range n {
		p *= 10
	}
	return p
}

// fraction returns what stands behind the point of d, in units of MaxScale
// digits, with the sign of d.
func fraction(d api.Dec) int {
	return d.M % power(d.S) * power(api.MaxScale-d.S)
}

// widen returns the number of d with s digits behind the point, or false if it
// is beyond twice MaxDec: then no other decimal of that scale brings the sum
// back into bounds.
func widen(d api.Dec, s int) (int, bool) {
	p := power(s - d.S)
	if magnitude(d.M) > 2*api.MaxDec/uint64(p) {
		return 0, false
	}
	return d.M * p, true
}

// settle returns the decimal of (high * 2^64 + low) / 10^s, negative or not.
func settle(negative bool, high uint64, low uint64, s int) (api.Dec, api.Errno) {
	for s > 0 {
		h := high / 10
		l, rest := bits.Div64(high%10, low, 10)
		if rest != 0 {
			break
		}
		high, low, s = h, l, s-1
	}
	if high > 0 || low > api.MaxDec || s > api.MaxScale {
		return api.Dec{}, api.ErrOver
	}
	m := int(low)
	if negative {
		m = -m
	}
	return api.Dec{M: m, S: s}, api.OK
}

// cutSign returns the sign of a numeral as a factor, and what stands behind it.
func cutSign(t string) (int, string) {
	if rest, found := strings.CutPrefix(t, "-"); found {
		return -1, rest
	}
	return 1, strings.TrimPrefix(t, "+")
}

// read returns the number of a row of digits. A row that is too great is read
// to its end all the same, since ErrForm comes before ErrOver.
func read(row string) (int, api.Errno) {
	m, e := 0, api.OK
digits:
	for i := range len(row) {
		digit := int(row[i]) - '0'
		switch {
		case digit < 0 || digit > 9:
			m, e = 0, api.ErrForm
			break digits
		case e == api.ErrOver:
			continue digits
		case m > (api.MaxDec-digit)/10:
			m, e = 0, api.ErrOver
		default:
			m = m*10 + digit
		}
	}
	return m, e
}
