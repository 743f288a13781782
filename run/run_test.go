package run_test

import (
	"bytes"
	"math"
	"math/rand"
	"strings"
	"testing"

	"erasure/api"
	"erasure/run"
)

// row returns n bytes no two of which that lie side by side are the same.
func row(n int) string {
	b := make([]byte, n)
	for i := range b {
		b[i] = byte(i%50 + 'A')
	}
	return string(b)
}

func same(x byte, n int) string {
	return strings.Repeat(string([]byte{x}), n)
}

func wantPut(t *testing.T, text, want string) {
	t.Helper()
	if b, e := run.Put([]byte(text)); string(b) != want || e != api.OK {
		t.Errorf("P11.2: Put(%q): % x, %d, want % x", text, b, e, want)
	}
}

func wantGet(t *testing.T, b string, most int, want string) {
	t.Helper()
	if got, e := run.Get([]byte(b), most); string(got) != want || e != api.OK {
		t.Errorf("P11.1: Get(% x, %d): %q, %d, want %q", b, most, got, e, want)
	}
}

func wantError(t *testing.T, b string, most int, want api.Errno) {
	t.Helper()
	if got, e := run.Get([]byte(b), most); len(got) != 0 || e != want {
		t.Errorf("P11.1: Get(% x, %d): %q, %d, want error %d", b, most, got, e, want)
	}
}

func TestExample(t *testing.T) {
	wantPut(t, "aaab", "\xfe\x61\x00\x62\x80")
	wantGet(t, "\xfe\x61\x00\x62\x80", 4, "aaab")
}

func TestPut(t *testing.T) {
	for _, x := range [][2]string{
		{"", "\x80"}, {"a", "\x00a\x80"}, {"ab", "\x01ab\x80"}, {"aa", "\xffa\x80"}, {"aaa", "\xfea\x80"}, {"\x80", "\x00\x80\x80"}, {"\x80\x80", "\xff\x80\x80"},
		{"abb", "\x00a\xffb\x80"}, {"abbc", "\x00a\xffb\x00c\x80"}, {"aabb", "\xffa\xffb\x80"}, {"aabab", "\xffa\x02bab\x80"}, {"abcaad", "\x02abc\xffa\x00d\x80"}, {"aba", "\x02aba\x80"},
		// Repetitions of 127 to 129 bytes and more.
		{same('a', 127), "\x82a\x80"}, {same('a', 128), "\x81a\x80"}, {same('a', 129), "\x81a\x00a\x80"}, {same('a', 130), "\x81a\xffa\x80"}, {same('a', 131), "\x81a\xfea\x80"},
		{same('a', 256), "\x81a\x81a\x80"}, {same('a', 257), "\x81a\x81a\x00a\x80"}, {same('a', 129) + "b", "\x81a\x01ab\x80"}, {same('a', 129) + "bb", "\x81a\x00a\xffb\x80"}, {same('a', 128) + "b", "\x81a\x00b\x80"},
		// Copies of 127 to 129 bytes and more.
		{row(127), "\x7e" + row(127) + "\x80"}, {row(128), "\x7f" + row(128) + "\x80"}, {row(129), "\x7f" + row(128) + "\x00" + row(129)[128:] + "\x80"}, {row(256), "\x7f" + row(128) + "\x7f" + row(256)[128:] + "\x80"},
		{row(128) + "zz", "\x7f" + row(128) + "\xffz\x80"}, {row(127) + "zz", "\x7e" + row(127) + "\xffz\x80"}, {row(129) + "zz", "\x7f" + row(128) + "\x00" + row(129)[128:] + "\xffz\x80"},
		{row(127) + "zzz", "\x7e" + row(127) + "\xfez\x80"}, {same('a', 128) + row(128), "\x81a\x7f" + row(128) + "\x80"}, {same('z', 129) + row(127), "\x81z\x7fz" + row(127) + "\x80"}, {same('z', 129) + row(128), "\x81z\x7fz" + row(127) + "\x00" + row(128)[127:] + "\x80"},
	} {
		wantPut(t, x[0], x[1])
		wantGet(t, x[1], len(x[0]), x[0])
	}
}

func TestGetOfEachPart(t *testing.T) {
	for n := range 256 {
		first := string([]byte{byte(n)})
		switch {
		case n < 128:
			text := strings.Repeat("xy", 64)[:n+1]
			wantGet(t, first+text+"\x80", n+1, text)
			wantGet(t, "\x00-"+first+text+"\xff+\x80", n+4, "-"+text+"++")
			wantError(t, first+text+"\x80", n, api.ErrLong)
			for missing := range n + 2 {
				wantError(t, first+text[:n+1-missing], n+1, api.ErrMore)
			}
		case n > 128:
			text := same('x', 257-n)
			wantGet(t, first+"x\x80", 257-n, text)
			wantGet(t, "\x00-"+first+"x\x01ab\x80", 260-n, "-"+text+"ab")
			wantError(t, first+"x\x80", 256-n, api.ErrLong)
			wantError(t, first, 257-n, api.ErrMore)
			wantError(t, first+"x", 257-n, api.ErrMore)
		}
	}
	// Parts that Put does not write.
	wantGet(t, "\x01aa\x00b\x00b\xffc\xffc\x80", 8, "aabbcccc")
	// Every byte may be copied and repeated.
	for x := range 256 {
		b := string([]byte{byte(x)})
		wantGet(t, "\x00"+b+"\xfe"+b+"\x80", 4, b+b+b+b)
	}
}

func TestEnd(t *testing.T) {
	wantGet(t, "\x80", 0, "")
	// What follows the end is ignored, whatever it is.
	for _, rest := range []string{"\x80", "\x00", "\x05a", "\xff", "\x00a\x80", "\xffa"} {
		wantGet(t, "\x80"+rest, 0, "")
		wantGet(t, "\x01ab\x80"+rest, 2, "ab")
	}
	// An end within a part is none.
	wantError(t, "\x01\x80", 9, api.ErrMore)
	wantError(t, "\x00\x80", 9, api.ErrMore)
	wantError(t, "\xff\x80", 9, api.ErrMore)
	wantGet(t, "\x01\x80\x80\x80", 2, "\x80\x80")
	for _, b := range []string{"", "\x00", "\x00a", "\x00a\x00b", "\xffa", "\x81", "\x7f" + row(128)} {
		wantError(t, b, 999, api.ErrMore)
	}
}

func TestErrorsInOrder(t *testing.T) {
	for _, most := range []int{-1, api.MaxBytes + 1, math.MaxInt, math.MinInt} {
		for _, b := range []string{"", "\x80", "\x00", "\x00a\x80"} {
			wantError(t, b, most, api.ErrArg)
		}
	}
	// Bytes of a part that are missing come before too many, a missing end after.
	wantError(t, "\x01a", 0, api.ErrMore)
	wantError(t, "\xff", 0, api.ErrMore)
	wantError(t, "\x01ab", 1, api.ErrLong)
	wantError(t, "\x01ab", 2, api.ErrMore)
	wantError(t, "\xffa", 1, api.ErrLong)
	// The first part that is wrong counts.
	wantError(t, "\x01ab\x05c", 1, api.ErrLong)
	wantError(t, "\x01ab\x05c", 2, api.ErrMore)
	wantError(t, "\x01ab\x01cd\x80", 3, api.ErrLong)
	wantError(t, "\x01ab\xffc\x80", 3, api.ErrLong)
	wantGet(t, "\x01ab\x01cd\x80", 4, "abcd")
	wantError(t, "", 0, api.ErrMore)
}

// wantParts puts bytes by the definition.
func wantParts(b []byte) []byte {
	var out []byte
	twice := func(i int) bool { return i+1 < len(b) && b[i] == b[i+1] }
	for at := 0; at < len(b); {
		n := 1
		if twice(at) {
			for at+n < len(b) && b[at+n] == b[at] && n < 128 {
				n++
			}
			out = append(out, byte(257-n), b[at])
		} else {
			for at+n < len(b) && !twice(at+n) && n < 128 {
				n++
			}
			out = append(append(out, byte(n-1)), b[at:at+n]...)
		}
		at += n
	}
	return append(out, 128)
}

func TestBothWays(t *testing.T) {
	r := rand.New(rand.NewSource(1))
	for range 2000 {
		var b []byte
		for range r.Intn(20) {
			switch r.Intn(4) {
			case 0:
				b = append(b, row(r.Intn(300))...)
			case 1:
				b = append(b, same(byte(r.Intn(256)), r.Intn(300))...)
			default:
				b = append(b, byte(r.Intn(256)), byte(r.Intn(3)), byte(r.Intn(3)))
			}
		}
		kept := bytes.Clone(b)
		wantPut(t, string(b), string(wantParts(b)))
		put, e := run.Put(b)
		if !bytes.Equal(b, kept) || e != api.OK {
			t.Fatalf("P11.2: Put changed its bytes, %d", e)
		}
		wantGet(t, string(put), len(b), string(b))
		if len(b) > 0 {
			wantError(t, string(put), len(b)-1, api.ErrLong)
		}
		for range 3 {
			wantError(t, string(put[:r.Intn(len(put))]), api.MaxBytes, api.ErrMore)
		}
	}
}

func TestMany(t *testing.T) {
	for _, text := range []string{same('a', api.MaxBytes), strings.Repeat(row(64), api.MaxBytes/64), strings.Repeat("abccd-ef", api.MaxBytes/8)} {
		b, e := run.Put([]byte(text))
		if e != api.OK {
			t.Errorf("P11.2: Put of %d bytes: %d", len(text), e)
		}
		if got, e := run.Get(b, api.MaxBytes); string(got) != text || e != api.OK {
			t.Errorf("P11.3: of %d bytes %d came back, %d", len(text), len(got), e)
		}
		if b, e := run.Put([]byte(text + "x")); len(b) != 0 || e != api.ErrLong {
			t.Errorf("P11.2: Put of %d bytes: %d bytes, %d", len(text)+1, len(b), e)
		}
		if got, e := run.Get(append([]byte("\x00x"), b...), api.MaxBytes); len(got) != 0 || e != api.ErrLong {
			t.Errorf("P11.1: Get of %d bytes: %d bytes, %d", len(text)+1, len(got), e)
		}
	}
}

func TestArgumentsAreKept(t *testing.T) {
	all := []byte("xaaabyyy")
	b, _ := run.Put(all[1:5])
	copy(b[:cap(b)], "zzzzzzzzzzzz")
	told := []byte("\x02abc\x80yyyy")
	got, _ := run.Get(told[:5], 9)
	copy(got[:cap(got)], "zzzzzzzzzzzz")
	if string(all) != "xaaabyyy" || string(told) != "\x02abc\x80yyyy" {
		t.Errorf("P11.1: bytes that were passed became %q, %q", all, told)
	}
}
