package token_test

import (
	"math"
	"slices"
	"testing"

	"erasure/api"
	"erasure/token"
)

func TestValid(t *testing.T) {
	for _, x := range []api.Token{{}, {Byte: 1}, {Byte: 255}, {Length: 3, Back: 1}, {Length: 258, Back: 1}, {Length: 3, Back: 32768}, {Length: 258, Back: 32768}} {
		if !token.Valid(x) {
			t.Errorf("%v is not valid", x)
		}
	}
	for _, x := range []api.Token{
		{Byte: -1}, {Byte: 256}, {Byte: math.MaxInt}, {Byte: math.MinInt}, {Back: 1}, {Byte: 7, Back: 1}, {Back: -1},
		{Length: 2, Back: 1}, {Length: 1, Back: 1}, {Length: -1, Back: 1}, {Length: 259, Back: 1}, {Length: math.MaxInt, Back: 1}, {Length: math.MinInt, Back: 1},
		{Length: 3}, {Length: 3, Back: -1}, {Length: 3, Back: 32769}, {Length: 3, Back: math.MaxInt}, {Length: 3, Back: math.MinInt},
		{Byte: 1, Length: 3, Back: 1}, {Byte: -1, Length: 3, Back: 1},
	} {
		if token.Valid(x) {
			t.Errorf("%v is valid", x)
		}
	}
}

// TestSpans takes the spans from RFC 1951.
func TestSpans(t *testing.T) {
	lengths := []token.Span{
		{3, 0}, {4, 0}, {5, 0}, {6, 0}, {7, 0}, {8, 0}, {9, 0}, {10, 0}, {11, 1}, {13, 1}, {15, 1}, {17, 1}, {19, 2}, {23, 2}, {27, 2}, {31, 2},
		{35, 3}, {43, 3}, {51, 3}, {59, 3}, {67, 4}, {83, 4}, {99, 4}, {115, 4}, {131, 5}, {163, 5}, {195, 5}, {227, 5}, {258, 0},
	}
	if l := token.Lengths(); !slices.Equal(l, lengths) {
		t.Errorf("lengths: %v, want %v", l, lengths)
	}
	distances := []token.Span{
		{1, 0}, {2, 0}, {3, 0}, {4, 0}, {5, 1}, {7, 1}, {9, 2}, {13, 2}, {17, 3}, {25, 3}, {33, 4}, {49, 4}, {65, 5}, {97, 5}, {129, 6}, {193, 6},
		{257, 7}, {385, 7}, {513, 8}, {769, 8}, {1025, 9}, {1537, 9}, {2049, 10}, {3073, 10}, {4097, 11}, {6145, 11}, {8193, 12}, {12289, 12}, {16385, 13}, {24577, 13},
	}
	if l := token.Distances(); !slices.Equal(l, distances) {
		t.Errorf("distances: %v, want %v", l, distances)
	}
}
