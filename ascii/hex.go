package ascii

import (
	"slices"
	"strings"

	"erasure/api"
)

const (
	hexDigits = "0123456789ABCDEF"
	hexEnd    = ">"
)

// Hex returns two hexadecimal digits for each byte, and the end.
func Hex(b []byte) string {
	var t []byte
	for _, x := range b {
		t = append(t, hexDigits[x/16], hexDigits[x%16])
	}
	return string(t) + hexEnd
}

// Unhex returns the bytes of the hexadecimal digits ahead of the end.
func Unhex(t string, most int) ([]byte, api.Errno) {
	if !allowed(most) {
		return nil, api.ErrArg
	}
	body, _, found := strings.Cut(t, hexEnd)
	if !found {
		return nil, api.ErrForm
	}
	digits, e := hexValues(body)
	if e != api.OK {
		return nil, e
	}
	if len(digits)%2 != 0 {
		digits = append(digits, 0)
	}
	if len(digits)/2 > most {
		return nil, api.ErrLong
	}
	var b []byte
	for pair := range slices.Chunk(digits, 2) {
		b = append(b, pair[0]*16+pair[1])
	}
	return b, api.OK
}

// hexValues returns the values of all digits.
func hexValues(body string) ([]byte, api.Errno) {
	var l []byte
	for _, c := range body {
		if isSpace(c) {
			continue
		}
		switch {
		case '0' <= c && c <= '9':
			l = append(l, byte(c-'0'))
		case 'A' <= c && c <= 'F':
			l = append(l, byte(c-'A'+10))
		case 'a' <= c && c <= 'f':
			l = append(l, byte(c-'a'+10))
		default:
			return nil, api.ErrForm
		}
	}
	return l, api.OK
}
