package predict

// Tags are places in a table. The rows of TIFF have no tag, but the prediction of tagBefore.
const (
	tagZero    = 0
	tagBefore  = 1
	tagAbove   = 2
	tagAverage = 3
	tagNearest = 4
	tags       = 5
)

// prediction tells of a byte by the one before it (a), the one above it (b),
// and the one before that (c).
type prediction func(a, b, c byte) byte

// table holds predictions by their tags.
type table [tags]prediction

// tableOf returns what the rows of a predictor may be predicted by: those of PNG
// by the prediction of TIFF as well.
func tableOf(predictor int) table {
	var t table
	switch {
	case predictor >= png:
		t[tagZero] = zero
		t[tagAbove] = above
		t[tagAverage] = average
		t[tagNearest] = nearest
		fallthrough
	case predictor == tiff:
		t[tagBefore] = before
	}
	return t
}

func zero(a, b, c byte) byte {
	return 0
}

func before(a, b, c byte) byte {
	return a
}

func above(a, b, c byte) byte {
	return b
}

func average(a, b, c byte) byte {
	return byte((int(a) + int(b)) / 2)
}

// nearest returns the first one of those that are nearest to a + b - c.
func nearest(a, b, c byte) byte {
	p := int(a) + int(b) - int(c)
	best := a
	for _, x := range [...]byte{b, c} {
		if distance(p, int(x)) < distance(p, int(best)) {
			best = x
		}
	}
	return best
}

func distance(x, y int) int {
	return max(x-y, y-x)
}
