package ascii_test

import (
	"bytes"
	"encoding/ascii85"
	"encoding/hex"
	"math"
	"math/rand"
	"slices"
	"strings"
	"testing"

	"erasure/api"
	"erasure/ascii"
)

// spaces are all bytes of white space.
const spaces = "\x00\t\n\f\r "

// strangers are characters that are nowhere taken: each looks like one that is.
var strangers = []string{"\x01", "\x0b", "\x08", "\x0e", "\x1f", "\x7f", "\x80", "\x85", "\xa0", "\xff", "\xc3\xa9", "\u00a0", "\u2028", "\ufeff", "\ufffd", "\uff11", "\u0661", "\uff21", "\xc0\x80", "\xc0\xbe", "\xe2\x82", "\xf0\x9f\x98\x80", "\xf0"}

type decode = func(string, int) ([]byte, api.Errno)

func wantBytes(t *testing.T, get decode, text string, most int, want string) {
	t.Helper()
	if b, e := get(text, most); string(b) != want || e != api.OK {
		t.Errorf("P10: bytes of %q, %d at most: % x, %d, want % x", text, most, b, e, want)
	}
}

func wantError(t *testing.T, get decode, text string, most int, want api.Errno) {
	t.Helper()
	if b, e := get(text, most); len(b) != 0 || e != want {
		t.Errorf("P10: bytes of %q, %d at most: % x, %d, want error %d", text, most, b, e, want)
	}
}

// parts lists bytes of many kinds, always the same ones.
func parts() [][]byte {
	r := rand.New(rand.NewSource(1))
	l := [][]byte{nil, {0}, {0, 0}, {0, 0, 0}, {0, 0, 0, 0}, {0, 0, 0, 0, 0}, bytes.Repeat([]byte{0}, 12), bytes.Repeat([]byte{0xff}, 4), bytes.Repeat([]byte{0xff}, 7)}
	for x := range 256 {
		l = append(l, []byte{byte(x)}, []byte{0xff, byte(x)}, []byte{0xff, 0xff, byte(x)}, []byte{0xff, 0xff, 0xff, byte(x)}, []byte{byte(x), 0, 0, 0, 0})
	}
	for range 300 {
		b := make([]byte, r.Intn(40))
		for i := range b {
			b[i] = byte(r.Intn(256) * r.Intn(2))
		}
		l = append(l, b)
	}
	return l
}

// spaced puts white space between the characters of a text, but not within its end.
func spaced(r *rand.Rand, text, end string) string {
	body := strings.TrimSuffix(text, end)
	var b strings.Builder
	for i := range len(body) + 1 {
		for range r.Intn(3) {
			b.WriteByte(spaces[r.Intn(len(spaces))])
		}
		if i < len(body) {
			b.WriteByte(body[i])
		}
	}
	return b.String() + end
}

func TestMost(t *testing.T) {
	for _, most := range []int{-1, api.MaxBytes + 1, math.MaxInt, math.MinInt} {
		for _, text := range []string{"", "41>", "x>", "4", "41", ">", "~>", "z~>", "!~>", "v~>"} {
			wantError(t, ascii.Unhex, text, most, api.ErrArg)
			wantError(t, ascii.Get, text, most, api.ErrArg)
		}
	}
}

func TestHex(t *testing.T) {
	for _, x := range [][2]string{{"", ">"}, {"\xab\x0c", "AB0C>"}, {"\x00", "00>"}, {"\xff\x10\x9a", "FF109A>"}, {"hello", "68656C6C6F>"}} {
		if got := ascii.Hex([]byte(x[0])); got != x[1] {
			t.Errorf("P10.1: Hex(% x): %q, want %q", x[0], got, x[1])
		}
	}
	for _, b := range parts() {
		if got, want := ascii.Hex(b), strings.ToUpper(hex.EncodeToString(b))+">"; got != want {
			t.Errorf("P10.1: Hex(% x): %q, want %q", b, got, want)
		}
	}
}

func TestUnhex(t *testing.T) {
	for _, x := range [][2]string{
		{"4 1F>", "\x41\xf0"}, {">", ""}, {" >", ""}, {"0>", "\x00"}, {"f>", "\xf0"}, {"AbCdEf>", "\xab\xcd\xef"}, {"0123456789>", "\x01\x23\x45\x67\x89"}, {"aB0>", "\xab\x00"},
		// What follows the end is ignored, whatever it is.
		{"41>42>", "\x41"}, {"41>xyz", "\x41"}, {"41>\xff", "\x41"}, {">>", ""}, {"4>1", "\x40"},
		{spaces + "4" + spaces + "1" + spaces + ">" + spaces, "\x41"},
	} {
		n := len(x[1])
		wantBytes(t, ascii.Unhex, x[0], n, x[1])
		wantBytes(t, ascii.Unhex, x[0], api.MaxBytes, x[1])
		if n > 0 {
			wantError(t, ascii.Unhex, x[0], n-1, api.ErrLong)
		}
	}
	for _, c := range spaces {
		wantBytes(t, ascii.Unhex, string(c)+"6"+string(c)+"1"+string(c)+">", 1, "a")
	}
}

func TestUnhexRefuses(t *testing.T) {
	for _, text := range []string{"", "41", "4", " ", "x", strings.Repeat("4", 99), "41~", "\xff", "\xc0\xbe"} {
		wantError(t, ascii.Unhex, text, 9, api.ErrForm)
		wantError(t, ascii.Unhex, text, 0, api.ErrForm)
	}
	for _, c := range append(strangers, "g", "G", "z", "/", ":", "@", "`", "~", "<", "(", "-", "+", ".") {
		for _, text := range []string{c + ">", "41" + c + ">", "4" + c + "1>", c + "4142434445>", "4142434445" + c + ">", "41" + c + ">41>"} {
			// It comes before what is too long, wherever it stands.
			wantError(t, ascii.Unhex, text, 9, api.ErrForm)
			wantError(t, ascii.Unhex, text, 0, api.ErrForm)
		}
	}
	for c := range 256 {
		text := string([]byte{byte(c)})
		if _, err := hex.DecodeString(text + text); err == nil || strings.Contains(spaces+">", text) {
			continue
		}
		wantError(t, ascii.Unhex, text+"1>", 9, api.ErrForm)
	}
	wantError(t, ascii.Unhex, "1>", 0, api.ErrLong)
	wantError(t, ascii.Unhex, "123>", 1, api.ErrLong)
}

func TestPut(t *testing.T) {
	for _, x := range [][2]string{
		{"", "~>"}, {"\x00\x00\x00\x00a", "z@/~>"}, {"\x00", "!!~>"}, {"\x00\x00", "!!!~>"}, {"\x00\x00\x00", "!!!!~>"}, {"\x00\x00\x00\x00", "z~>"}, {"\x00\x00\x00\x00\x00", "z!!~>"},
		{"\x00\x00\x00\x00\x00\x00\x00\x00", "zz~>"}, {"\x00\x00\x00\x01", "!!!!\"~>"}, {"\xff\xff\xff\xff", "s8W-!~>"}, {"\xff", "rr~>"}, {"\xff\xff", "s8N~>"}, {"\xff\xff\xff", "s8W*~>"},
		{"Man ", "9jqo^~>"}, {"Man is", "9jqo^Bla~>"}, {"\x00\x00\x00\x00\xff\xff\xff\xff", "zs8W-!~>"},
	} {
		if got := ascii.Put([]byte(x[0])); got != x[1] {
			t.Errorf("P10.2: Put(% x): %q, want %q", x[0], got, x[1])
		}
	}
	for _, b := range parts() {
		out := make([]byte, ascii85.MaxEncodedLen(len(b)))
		want := string(out[:ascii85.Encode(out, b)]) + "~>"
		if got := ascii.Put(b); got != want {
			t.Errorf("P10.2: Put(% x): %q, want %q", b, got, want)
		}
	}
}

func TestGet(t *testing.T) {
	for _, x := range [][2]string{
		{"~>", ""}, {" ~>", ""}, {"z@/~>", "\x00\x00\x00\x00a"}, {"z~>", "\x00\x00\x00\x00"}, {"!!!!!~>", "\x00\x00\x00\x00"}, {"!!~>", "\x00"}, {"!!!~>", "\x00\x00"}, {"!!!!~>", "\x00\x00\x00"},
		{"s8W-!~>", "\xff\xff\xff\xff"}, {"rr~>", "\xff"}, {"s8N~>", "\xff\xff"}, {"s8W*~>", "\xff\xff\xff"}, {"9jqo^zzBla~>", "Man \x00\x00\x00\x00\x00\x00\x00\x00is"},
		// Left-over characters that Put does not write.
		{"!u~>", "\x03"}, {"\"!~>", "\x03"}, {"s7~>", "\xff"}, {"s8V~>", "\xff\xff"}, {"s8W,~>", "\xff\xff\xff"},
		// What follows the end is ignored, whatever it is.
		{"@/~>xyz", "a"}, {"@/~>~>", "a"}, {"@/~>\xff", "a"}, {"z~>v", "\x00\x00\x00\x00"},
		{spaces + "@" + spaces + "/" + spaces + "~>" + spaces, "a"}, {"9 j\nq\to\r^\x00~>", "Man "}, {"z z\fz~>", strings.Repeat("\x00", 12)},
	} {
		n := len(x[1])
		wantBytes(t, ascii.Get, x[0], n, x[1])
		wantBytes(t, ascii.Get, x[0], api.MaxBytes, x[1])
		if n > 0 {
			wantError(t, ascii.Get, x[0], n-1, api.ErrLong)
			wantError(t, ascii.Get, x[0], 0, api.ErrLong)
		}
	}
}

func TestGetRefuses(t *testing.T) {
	for _, text := range []string{
		"", "z", "@/", "~", ">", "@/>", "@/~", "@/~ >", "@/~x>", " ", "\xff", "@/~\x00>", // no end
		"!~>", "u~>", "z!~>", "!!!!!!~>", "9jqo^B~>", "! ~>", // a single character
		"!z~>", "!!z~>", "!!!z~>", "!!!!z~>", "!!!!!!z~>", "!z!!!~>", "! z~>", "!!!!z!~>", // z within a group
		"s8W-\"~>", "s8W.!~>", "s8X!!~>", "s9!!!~>", "t!!!!~>", "uuuuu~>", "s8W-u~>", "zs8W-\"z~>", // a number that is too great
		"s8~>", "st~>", "t!~>", "uu~>", "s8W~>", "s9!~>", "t!!~>", "s8W-~>", "s8X!~>", "uuuu~>", "zzs8~>", // and left-over ones
		"~~>", "@/~@/~>", "@~/~>", ">~>",
	} {
		for _, most := range []int{9, 0, 999, 1} {
			wantError(t, ascii.Get, text, most, api.ErrForm)
		}
	}
	for _, c := range append(strangers, "v", "w", "x", "y", "{", "|", "}", "~") {
		for _, text := range []string{c + "~>", "zzz" + c + "~>", "!!" + c + "!!!~>", c + "!!!!!~>", "!!!!!" + c + "~>", "!!" + c + "~>"} {
			// It comes before what is too long, wherever it stands.
			wantError(t, ascii.Get, text, 99, api.ErrForm)
			wantError(t, ascii.Get, text, 0, api.ErrForm)
		}
	}
	for c := range 256 {
		text := string([]byte{byte(c)})
		if c < '!' && strings.Contains(spaces, text) || '!' <= c && c <= 'u' || c == 'z' {
			continue
		}
		wantError(t, ascii.Get, text+"!!!!!~>", 9, api.ErrForm)
	}
	wantError(t, ascii.Get, "zz~>", 7, api.ErrLong)
	wantError(t, ascii.Get, "@/~>", 0, api.ErrLong)
}

// TestLeftOver tries all texts of two characters, and those of three and four near the greatest number.
func TestLeftOver(t *testing.T) {
	var texts []string
	for a := byte('!'); a <= 'u'; a++ {
		for b := byte('!'); b <= 'u'; b++ {
			texts = append(texts, string([]byte{a, b}), string([]byte{'s', a, b}), string([]byte{'s', '8', a, b}), string([]byte{'s', '8', 'W', a, b}), string([]byte{a, b, a, b, a}))
		}
	}
	for _, text := range texts {
		n := 0
		for i := range 5 {
			c := byte('u')
			if i < len(text) {
				c = text[i]
			}
			n = n*85 + int(c-'!')
		}
		if n > 4294967295 {
			wantError(t, ascii.Get, text+"~>", 9, api.ErrForm)
			continue
		}
		all := []byte{byte(n >> 24), byte(n >> 16), byte(n >> 8), byte(n)}
		wantBytes(t, ascii.Get, text+"~>", 4, string(all[:len(text)-1]))
	}
}

func TestBothWays(t *testing.T) {
	r := rand.New(rand.NewSource(2))
	for _, b := range parts() {
		want, n := string(b), len(b)
		wantBytes(t, ascii.Unhex, ascii.Hex(b), n, want)
		wantBytes(t, ascii.Unhex, strings.ToLower(ascii.Hex(b)), n, want)
		wantBytes(t, ascii.Get, ascii.Put(b), n, want)
		for range 3 {
			wantBytes(t, ascii.Unhex, spaced(r, ascii.Hex(b), ">"), n, want)
			wantBytes(t, ascii.Get, spaced(r, ascii.Put(b), "~>"), n, want)
		}
	}
}

func TestMany(t *testing.T) {
	for _, x := range []byte{0, 1, 0xff} {
		b := bytes.Repeat([]byte{x}, api.MaxBytes)
		for i, get := range []decode{ascii.Unhex, ascii.Get} {
			put := []func([]byte) string{ascii.Hex, ascii.Put}[i]
			if got, e := get(put(b), api.MaxBytes); !bytes.Equal(got, b) || e != api.OK {
				t.Errorf("P10.4: of %d bytes %d came back, %d", len(b), len(got), e)
			}
			long := put(append(slices.Clip(b), x))
			if got, e := get(long, api.MaxBytes); len(got) != 0 || e != api.ErrLong {
				t.Errorf("P10.3: of %d bytes %d came back, %d", len(b)+1, len(got), e)
			}
			if got, e := get("~"+long, api.MaxBytes); len(got) != 0 || e != api.ErrForm {
				t.Errorf("P10.3: of a wrong text %d bytes came back, %d", len(got), e)
			}
		}
	}
}

func TestArgumentsAreKept(t *testing.T) {
	all := []byte("abcdefgh")
	ascii.Put(all[1:3])
	ascii.Hex(all[1:4])
	if string(all) != "abcdefgh" {
		t.Errorf("P10.2: bytes that were passed became %q", all)
	}
}
