package named_test

import (
	"strings"
	"testing"

	"erasure/api"
	"erasure/named"
)

func fonts(n int) []api.Named {
	var l []api.Named
	for i := range n {
		l = append(l, api.Named{Name: strings.Repeat("F", i), Font: api.Font{Other: i}})
	}
	return l
}

func TestCheck(t *testing.T) {
	bad := api.Font{Other: -1}
	for _, c := range []struct {
		name string
		l    []api.Named
		want api.Errno
	}{
		{"none", nil, api.OK}, {"one", fonts(1), api.OK}, {"64", fonts(64), api.OK}, {"65", fonts(65), api.ErrArg}, {"a name twice", append(fonts(3), api.Named{Name: "F"}), api.ErrArg}, {"no name twice", append(fonts(3), api.Named{}), api.ErrArg},
		{"a font that is not valid", append(fonts(3), api.Named{Name: "G", Font: bad}), api.ErrArg}, {"the first one not valid", append([]api.Named{{Name: "G", Font: bad}}, fonts(3)...), api.ErrArg},
	} {
		if e := named.Check(c.l); e != c.want {
			t.Errorf("P21.1: %s: %d, want %d", c.name, e, c.want)
		}
	}
}

func TestFind(t *testing.T) {
	l := append(fonts(3), api.Named{Name: "F", Font: api.Font{Wide: true}})
	for _, c := range []struct {
		name  string
		other int
		found bool
	}{{"", 0, true}, {"F", 1, true}, {"FF", 2, true}, {"FFF", 0, false}, {"f", 0, false}} {
		if f, found := named.Find(l, c.name); f.Other != c.other || f.Wide || found != c.found {
			t.Errorf("P23.2: %q: %v, %v", c.name, f, found)
		}
	}
	if _, found := named.Find(nil, ""); found {
		t.Error("P23.2: a font of no list")
	}
}
