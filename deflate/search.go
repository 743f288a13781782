package deflate

const (
	minMatch = 3
	maxMatch = 258
	maxBack  = 1024
)

const (
	hashBits = 15
	none     = -1 // no place
)

// search finds earlier places of bytes.
type search struct {
	b       []byte
	entered int   // places below it were entered
	last    []int // by the hash of three bytes: the last place that was entered
	before  []int // by place: the one with the same hash before it
}

func newSearch(b []byte) *search {
	s := &search{b: b, last: make([]int, 1<<hashBits), before: make([]int, len(b))}
	for i := range s.last {
		s.last[i] = none
	}
	return s
}

// longest returns the length of the longest match for the bytes at a place, and
// how far back the nearest one of that length is. A length below minMatch is none.
func (s *search) longest(at int) (int, int) {
	most := min(maxMatch, len(s.b)-at)
	if most < minMatch {
		return 0, 0
	}
	s.enter(at)
	length, back := 0, 0
	for p := s.last[s.hash(at)]; p != none && at-p <= maxBack && length < most; p = s.before[p] {
		if n := s.common(p, at, most); n > length {
			length, back = n, at-p
		}
	}
	return length, back
}

// enter enters all places before at. They have three bytes if at has.
func (s *search) enter(at int) {
	for ; s.entered < at; s.entered++ {
		h := s.hash(s.entered)
		s.before[s.entered] = s.last[h]
		s.last[h] = s.entered
	}
}

// hash may be the same for others than three equal bytes: common tells them apart.
func (s *search) hash(at int) int {
	b := s.b[at : at+minMatch]
	return (int(b[0])<<10 ^ int(b[1])<<5 ^ int(b[2])) % (1 << hashBits)
}

// common returns how many bytes are the same at two places, up to most.
func (s *search) common(p, at, most int) int {
	n := 0
	for n < most && s.b[p+n] == s.b[at+n] {
		n++
	}
	return n
}
