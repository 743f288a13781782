package inflate_test

import (
	"math/rand"
	"slices"
	"testing"

	"erasure/api"
)

// rank is the order in which a block tells the lengths of its code length codes.
var rank = []int{16, 17, 18, 0, 8, 7, 9, 6, 10, 5, 11, 4, 12, 3, 13, 2, 14, 1, 15}

// balanced returns code length codes for some symbols, with as equal lengths as can be.
func balanced(symbols []int) []int {
	l := make([]int, 19)
	n := 0
	for 2<<n <= len(symbols) {
		n++
	}
	for i, s := range symbols {
		l[s] = n
		if i >= 2<<n-len(symbols) {
			l[s]++
		}
	}
	return l
}

// flat are code length codes of three bits for what most of the tests need.
func flat() []int {
	return balanced([]int{0, 1, 2, 3, 15, 16, 17, 18})
}

// counts appends how many symbol lengths, distance lengths and code length codes follow.
func (s *stream) counts(symbols, distances, codes int) *stream {
	return s.bits(symbols-257, 5).bits(distances-1, 5).bits(codes-4, 4)
}

// ranked appends the first n lengths of the code length codes.
func (s *stream) ranked(l []int, n int) *stream {
	for _, x := range rank[:n] {
		s.bits(l[x], 3)
	}
	return s
}

// lengths appends all that stands ahead of the lengths.
func (s *stream) lengths(l []int, symbols, distances int) *stream {
	return s.counts(symbols, distances, 19).ranked(l, 19)
}

// copies appends symbol 16 of flat, for n lengths, and null symbol 17 or 18, for n lengths 0.
func (s *stream) copies(n int) *stream {
	return s.codes(flat(), 16).bits(n-3, 2)
}

func (s *stream) null(n int) *stream {
	if n < 11 {
		return s.codes(flat(), 17).bits(n-3, 3)
	}
	return s.codes(flat(), 18).bits(n-11, 7)
}

// zeros appends n lengths 0 by the symbols of flat.
func (s *stream) zeros(n int) *stream {
	for ; n >= 138; n -= 138 {
		s.null(138)
	}
	if n >= 3 {
		return s.null(n)
	}
	for range n {
		s.codes(flat(), 0)
	}
	return s
}

// dynamic begins a last block whose lengths are told by flat.
func dynamic(symbols, distances int) *stream {
	return begin().last(2).lengths(flat(), symbols, distances)
}

// simple begins a last block in which 'a' is 0, 256 is 10 and 257 is 11, and
// has these distance lengths.
func simple(distances ...int) *stream {
	s := dynamic(258, len(distances)).zeros('a').codes(flat(), 1).zeros(256-'a'-1).codes(flat(), 2, 2)
	return s.codes(flat(), distances...)
}

func TestDynamic(t *testing.T) {
	b := simple(1, 1).bits(0, 1).bits(0, 1).bits(3, 2).bits(1, 1).bits(3, 2).bits(0, 1).bits(1, 2)
	want := append(literals("aa"), api.Token{Length: 3, Back: 2}, api.Token{Length: 3, Back: 1})
	wantTokens(t, b.bytes(), 8, want, len(b.bytes()))
	wantInflate(t, b.bytes(), 8, "aaaaaaaa", len(b.bytes()))
	wantError(t, b.bytes(), 7, api.ErrLong)
	// Distances that are too great.
	wantError(t, simple(1, 1).bits(0, 1).bits(3, 2).bits(1, 1).bits(1, 2).bytes(), 9, api.ErrForm)
	wantError(t, simple(1, 1).bits(3, 2).bits(0, 1).bits(1, 2).bytes(), 9, api.ErrForm)
}

// TestDynamicCounts wants the greatest numbers of lengths to be taken, and
// others to be refused once all three numbers were read, but not later.
func TestDynamicCounts(t *testing.T) {
	for _, n := range []int{257, 258, 285, 286} {
		for _, m := range []int{1, 2, 29, 30} {
			b := dynamic(n, m).zeros(256).codes(flat(), 1).zeros(n-257+m).bits(0, 1)
			wantInflate(t, b.bytes(), 0, "", len(b.bytes()))
		}
	}
	for _, x := range [][2]int{{287, 1}, {288, 1}, {287, 30}, {257, 31}, {257, 32}, {286, 31}, {286, 32}, {288, 32}} {
		wantError(t, begin().last(2).counts(x[0], x[1], 4).exact(), 9, api.ErrForm)
		wantError(t, begin().last(2).counts(x[0], x[1], 19).exact(), 9, api.ErrForm)
		wantError(t, dynamic(x[0], x[1]).zeros(256).codes(flat(), 1).zeros(x[0]-257+x[1]).bits(0, 1).bytes(), 9, api.ErrForm)
		for n := 3; n < 17; n++ {
			wantError(t, begin().last(2).counts(x[0], x[1], 19).cut(n).exact(), 9, api.ErrMore)
		}
	}
}

// TestCodeLengthOrder tells ever more code length codes. Those of lengths are
// a row without a gap at each number of them.
func TestCodeLengthOrder(t *testing.T) {
	for n := 5; n <= 19; n++ {
		least, most := slices.Min(rank[4:n]), slices.Max(rank[4:n])
		l := balanced(rank[:n])
		b := begin().last(2).counts(257, 1, n).ranked(l, n)
		told := slices.Repeat([]int{least}, 1<<least-1)
		for x := least + 1; x <= most; x++ {
			told = append(told, x)
		}
		told = append(told, most)
		told = append(make([]int, 257-len(told)), told...)
		b.codes(l, told...).codes(l, 0)
		b.codes(told, 254, 255, 256)
		wantInflate(t, b.bytes(), 9, "\xfe\xff", len(b.bytes()))
	}
	// With four of them there is no length but 0.
	l := balanced(rank[:4])
	b := begin().last(2).counts(257, 1, 4).ranked(l, 4).codes(l, make([]int, 258)...)
	wantError(t, b.bytes(), 9, api.ErrForm)
}

func TestCodeLengthCodes(t *testing.T) {
	r := rand.New(rand.NewSource(1))
	for range 200 {
		// Thirteen codes of four bits and six of five, for any symbols.
		l := append(slices.Repeat([]int{4}, 13), slices.Repeat([]int{5}, 6)...)
		r.Shuffle(len(l), func(i, j int) { l[i], l[j] = l[j], l[i] })
		told := []int{1, 2, 3, 4, 5, 6, 7, 8, 9, 10, 11, 12, 13, 14, 15, 15}
		r.Shuffle(len(told), func(i, j int) { told[i], told[j] = told[j], told[i] })
		told = append(told, make([]int, 240)...)
		r.Shuffle(len(told), func(i, j int) { told[i], told[j] = told[j], told[i] })
		told = append(told, told[0])
		if told[0] = 0; told[256] == 0 {
			continue
		}
		distances := []int{0, 3, 1, 3, 2}
		b := begin().last(2).lengths(l, 257, 5).codes(l, told...).codes(l, distances...)
		var want []byte
		for s, n := range told[:256] {
			if n > 0 {
				want = append(want, byte(s))
				b.codes(told, s)
			}
		}
		wantInflate(t, b.codes(told, 256).bytes(), 99, string(want), len(b.bytes()))
	}
}

func TestCodeLengthCodesRefuse(t *testing.T) {
	all := func(x int) []int { return slices.Repeat([]int{x}, 19) }
	some := func(lengths ...int) []int { return append(lengths, make([]int, 19-len(lengths))...) }
	for _, l := range [][]int{all(1), all(2), all(4), all(5), all(7), some(2), some(1, 2), some(1, 1, 1), some(1, 1, 7), some(0, 0, 7)} {
		// Told before the first length is looked for.
		wantError(t, begin().last(2).lengths(l, 257, 1).exact(), 9, api.ErrForm)
	}
	for n := 17; n < 74; n++ {
		wantError(t, begin().last(2).lengths(all(1), 257, 1).cut(n).exact(), 9, api.ErrMore)
	}
	// Without code length codes fifteen bits are read, and so they are for a
	// single code where the first bit does not begin it.
	for _, l := range [][]int{all(0), some(0, 0, 1)} {
		for n := range 15 {
			wantError(t, begin().last(2).lengths(l, 257, 1).bits(1<<n-1, n).exact(), 9, api.ErrMore)
		}
		wantError(t, begin().last(2).lengths(l, 257, 1).bits(1<<15-1, 15).exact(), 9, api.ErrForm)
	}
}

func TestRepeatPrevious(t *testing.T) {
	for n := 3; n <= 6; n++ {
		// Eight codes of three bits.
		b := dynamic(257, 1).zeros(249).codes(flat(), 3).copies(n).codes(flat(), slices.Repeat([]int{3}, 7-n)...).codes(flat(), 0)
		wantInflate(t, b.code(0, 3).code(6, 3).code(7, 3).bytes(), 9, "\xf9\xff", len(b.bytes()))
		// Lengths 0 that are repeated, told by each of their symbols.
		b = dynamic(257, 1).zeros(255-n).codes(flat(), 0).copies(n).codes(flat(), 1, 0).bits(0, 1)
		wantInflate(t, b.bytes(), 9, "", len(b.bytes()))
		b = dynamic(257, 1).zeros(241).null(9).copies(n).zeros(6-n).codes(flat(), 1, 0).bits(0, 1)
		wantInflate(t, b.bytes(), 9, "", len(b.bytes()))
		b = dynamic(257, 1).zeros(230).null(20).copies(n).zeros(6-n).codes(flat(), 1, 0).bits(0, 1)
		wantInflate(t, b.bytes(), 9, "", len(b.bytes()))
		// A repeated length is the previous one.
		b = dynamic(257, n+3).zeros(256).codes(flat(), 1, 1, 0).copies(n).codes(flat(), 1).bits(0, 1)
		wantInflate(t, b.bytes(), 9, "", len(b.bytes()))
		// Twice in a row.
		b = dynamic(257, 2*n+1).zeros(256).codes(flat(), 1, 0).copies(n).copies(n).bits(0, 1)
		wantInflate(t, b.bytes(), 9, "", len(b.bytes()))
	}
	// From the symbol lengths to the distance lengths.
	b := dynamic(257, 4).zeros(253).codes(flat(), 2, 2).copies(6).code(0, 2).code(1, 2).code(3, 2)
	wantInflate(t, b.bytes(), 9, "\xfd\xfe", len(b.bytes()))
	// The first length has no previous one: told before the two bits are looked for.
	wantError(t, dynamic(257, 1).codes(flat(), 16).exact(), 9, api.ErrForm)
	wantError(t, dynamic(257, 1).copies(3).zeros(253).codes(flat(), 1, 0).bits(0, 1).bytes(), 9, api.ErrForm)
	for n := range 2 {
		wantError(t, dynamic(257, 1).codes(flat(), 1, 16).bits(0, n).exact(), 9, api.ErrMore)
	}
}

func TestRepeatZero(t *testing.T) {
	for n := 3; n <= 138; n++ {
		b := dynamic(257, 1).null(n).codes(flat(), make([]int, 256-n)...).codes(flat(), 1, 0).bits(0, 1)
		wantInflate(t, b.bytes(), 9, "", len(b.bytes()))
	}
	// From the symbol lengths to the distance lengths.
	b := dynamic(286, 30).zeros(256).codes(flat(), 1).null(59).bits(0, 1)
	wantInflate(t, b.bytes(), 9, "", len(b.bytes()))
	b = dynamic(258, 9).zeros(256).codes(flat(), 1).null(10).bits(0, 1)
	wantInflate(t, b.bytes(), 9, "", len(b.bytes()))
	// All bits of the number must be there.
	for n := range 3 {
		wantError(t, dynamic(257, 1).codes(flat(), 17).bits(0, n).exact(), 9, api.ErrMore)
	}
	for n := range 7 {
		wantError(t, dynamic(257, 1).codes(flat(), 18).bits(0, n).exact(), 9, api.ErrMore)
	}
}

// TestTooManyLengths wants ErrForm as soon as a repetition was read to its end.
func TestTooManyLengths(t *testing.T) {
	for _, x := range []struct{ symbol, bits, least int }{{16, 2, 3}, {17, 3, 3}, {18, 7, 11}} {
		for extra := range min(8, 1<<x.bits) {
			for left := 1; left < min(30, x.least+extra); left++ {
				s := dynamic(257, 1+left).zeros(256).codes(flat(), 1, 0).codes(flat(), x.symbol)
				for n := range x.bits {
					wantError(t, s.cut(len(s.row)).bits(extra, n).exact(), 9, api.ErrMore)
				}
				wantError(t, s.bits(extra, x.bits).exact(), 9, api.ErrForm)
			}
		}
	}
}

func TestWrongLengths(t *testing.T) {
	// The end has no code.
	wantError(t, dynamic(257, 1).zeros(254).codes(flat(), 1, 1, 0, 0).exact(), 9, api.ErrForm)
	wantError(t, dynamic(258, 1).zeros(257).codes(flat(), 1, 0).exact(), 9, api.ErrForm)
	wantError(t, dynamic(257, 1).zeros(258).exact(), 9, api.ErrForm)
	// Codes that are too many or too few.
	for _, l := range [][]int{{1, 1, 1}, {2, 2, 1, 2}, {15, 1, 1}, {2}, {15}, {2, 2}, {1, 2}, {3, 2, 1}} {
		wantError(t, dynamic(257, 1).zeros(257-len(l)).codes(flat(), l...).codes(flat(), 0).exact(), 9, api.ErrForm)
		wantError(t, dynamic(257, len(l)).zeros(256).codes(flat(), 1).codes(flat(), l...).exact(), 9, api.ErrForm)
	}
	// That is told only once all lengths are there.
	wantError(t, dynamic(257, 2).zeros(257).codes(flat(), 1).exact(), 9, api.ErrMore)
	wantError(t, dynamic(257, 2).zeros(254).codes(flat(), 1, 1, 1, 0).exact(), 9, api.ErrMore)
}

func TestFewDistances(t *testing.T) {
	// Without distances, or with a single one that does not begin so, fifteen bits are read.
	for _, l := range [][]int{{0}, {0, 0, 0}, {1}, {0, 1, 0}} {
		s := simple(l...).bits(0, 1).bits(3, 2)
		for n := range 15 {
			wantError(t, s.cut(len(s.row)).bits(1<<n-1, n).exact(), 9, api.ErrMore)
		}
		wantError(t, s.bits(1<<15-1, 15).exact(), 9, api.ErrForm)
	}
	b := simple(0).bits(0, 1).bits(0, 1).bits(1, 2)
	wantInflate(t, b.bytes(), 9, "aa", len(b.bytes()))
	b = simple(1).bits(0, 1).bits(3, 2).bits(0, 1).bits(1, 2)
	wantInflate(t, b.bytes(), 9, "aaaa", len(b.bytes()))
	b = simple(0, 1).bits(0, 2).bits(3, 2).bits(0, 1).bits(1, 2)
	wantInflate(t, b.bytes(), 9, "aaaaa", len(b.bytes()))
}
