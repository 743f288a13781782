package view_test

import (
	"math/big"
	"math/rand"
	"strconv"
	"strings"
	"testing"

	"erasure/api"
	"erasure/dec"
	"erasure/obj"
	"erasure/ops"
	"erasure/view"
)

// rats are the six numbers of a matrix, as fractions.
type rats [6]*big.Rat

func rat(d api.Dec) *big.Rat {
	s, _ := dec.Print(d)
	r, _ := new(big.Rat).SetString(s)
	return r
}

func ratsOf(l []api.Obj) rats {
	var m rats
	for i := range m {
		m[i] = rat(l[i].Num)
	}
	return m
}

func ones() rats { return moved(new(big.Rat), new(big.Rat)) }

func moved(x, y *big.Rat) rats {
	return rats{big.NewRat(1, 1), new(big.Rat), new(big.Rat), big.NewRat(1, 1), x, y}
}

// times multiplies two matrices of three rows: first m, then n.
func times(m, n rats) rats {
	zero, one := new(big.Rat), big.NewRat(1, 1)
	rows := [3][3]*big.Rat{{m[0], m[1], zero}, {m[2], m[3], zero}, {m[4], m[5], one}}
	columns := [3][3]*big.Rat{{n[0], n[2], n[4]}, {n[1], n[3], n[5]}, {zero, zero, one}}
	var out rats
	for i := range 3 {
		for k := range 2 {
			sum := new(big.Rat)
			for j := range 3 {
				sum.Add(sum, new(big.Rat).Mul(rows[i][j], columns[k][j]))
			}
			out[2*i+k] = sum
		}
	}
	return out
}

func mul(a ...*big.Rat) *big.Rat {
	out := big.NewRat(1, 1)
	for _, x := range a {
		out.Mul(out, x)
	}
	return out
}

func sum(a ...*big.Rat) *big.Rat {
	out := new(big.Rat)
	for _, x := range a {
		out.Add(out, x)
	}
	return out
}

// texts computes with fractions where the codes of a content stand.
type texts struct {
	c, t, line                          rats
	size, char, word, scale, lead, rise *big.Rat
	wide                                bool
	out                                 []string
}

func newTexts() *texts {
	zero := new(big.Rat)
	return &texts{c: ones(), t: ones(), line: ones(), size: zero, char: zero, word: zero, scale: big.NewRat(100, 1), lead: zero, rise: zero}
}

func (x *texts) move(a, b *big.Rat) {
	x.line = times(moved(a, b), x.line)
	x.t = x.line
}

func (x *texts) show(s string) {
	h := mul(x.scale, big.NewRat(1, 100))
	zero := new(big.Rat)
	for s != "" {
		code, width := int(s[0]), 0
		s = s[1:]
		switch {
		case x.wide:
			code, s, width = code*256+int(s[0]), s[1:], 400
			if code == 32 {
				width = 100
			}
		case code == 32:
			width = 1000
		case code == 65:
			width = 500
		case code == 66:
			width = 250
		}
		m := times(times(rats{mul(x.size, h), zero, zero, x.size, zero, x.rise}, x.t), x.c)
		line := strconv.Itoa(code)
		for _, r := range m {
			line += " " + r.RatString()
		}
		x.out = append(x.out, line)
		along := sum(mul(big.NewRat(int64(width), 1000), x.size), x.char)
		if !x.wide && code == 32 {
			along = sum(along, x.word)
		}
		x.t = times(moved(mul(along, h), zero), x.t)
	}
}

func (x *texts) do(o api.Op) {
	var n []*big.Rat
	for _, a := range o.Args {
		n = append(n, rat(a.Num))
	}
	switch o.Name {
	case "BT":
		x.t, x.line = ones(), ones()
	case "cm":
		x.c = times(ratsOf(o.Args), x.c)
	case "Tc":
		x.char = n[0]
	case "Tw":
		x.word = n[0]
	case "Tz":
		x.scale = n[0]
	case "TL":
		x.lead = n[0]
	case "Ts":
		x.rise = n[0]
	case "Tf":
		x.size, x.wide = n[1], o.Args[0].Text == "W"
	case "TD":
		x.lead = mul(big.NewRat(-1, 1), n[1])
		x.move(n[0], n[1])
	case "Td":
		x.move(n[0], n[1])
	case "Tm":
		x.line = ratsOf(o.Args)
		x.t = x.line
	case "T*", "'", "\"":
		if o.Name == "\"" {
			x.word, x.char = n[0], n[1]
		}
		x.move(new(big.Rat), mul(big.NewRat(-1, 1), x.lead))
	}
	if len(o.Args) > 0 && o.Args[len(o.Args)-1].Kind == api.ObjText {
		x.show(o.Args[len(o.Args)-1].Text)
	}
	if o.Name == "TJ" {
		for _, p := range o.Args[0].Parts {
			if p.Kind == api.ObjText {
				x.show(p.Text)
			} else {
				x.t = times(moved(mul(big.NewRat(-1, 1000), rat(p.Num), x.size, x.scale, big.NewRat(1, 100)), new(big.Rat)), x.t)
			}
		}
	}
}

// someText returns a content of one text, of numbers that stay representable.
func someText(r *rand.Rand) string {
	n := func() string { return strconv.Itoa(r.Intn(7) - 3) }
	half := func() string { return n() + "." + strconv.Itoa(r.Intn(2)*5) }
	str := func() string { return []string{"(A )", "(  )", "(AB)", "()", "(BAAC)", "<0020>"}[r.Intn(6)] }
	font := func() string { return []string{"/F ", "/W "}[r.Intn(2)] + n() + " Tf " }
	setting := func() string {
		return []string{half() + " Tc ", half() + " Tw ", n() + "0 Tz ", n() + " TL ", half() + " Ts ", font()}[r.Intn(6)]
	}
	six := func() string { return strings.Join([]string{n(), n(), n(), n(), half(), half()}, " ") }
	s := font()
	for range r.Intn(4) {
		s += setting()
	}
	if r.Intn(2) == 0 {
		s += six() + " cm "
	}
	s += "BT "
	for range r.Intn(6) {
		s += []string{setting(), n() + " " + half() + " Td ", half() + " " + n() + " TD ", six() + " Tm ", "T* ", str() + " Tj ", str() + " ' ", half() + " " + n() + " " + str() + " \" ", "[ " + str() + n() + "00 " + str() + " ] TJ "}[r.Intn(9)]
	}
	return s + "ET"
}

func TestTextsByFractions(t *testing.T) {
	r := rand.New(rand.NewSource(21))
	shown, over := 0, 0
	for range 6000 {
		s := someText(r)
		l := parse(t, s)
		marks, e := view.See(l, fonts())
		if e == api.ErrOver {
			over++
			continue
		}
		if e != api.OK {
			t.Fatalf("P21.1: %q: %d", s, e)
		}
		x := newTexts()
		for _, o := range l {
			x.do(o)
		}
		var got []string
		for _, m := range marks {
			line := strconv.Itoa(m.Code)
			for _, d := range []api.Dec{m.M.A, m.M.B, m.M.C, m.M.D, m.M.E, m.M.F} {
				line += " " + rat(d).RatString()
			}
			got = append(got, line)
			if b, e := view.Box(m, fonts()); b != m.Box || e != api.OK {
				t.Fatalf("P21.3: %q: %s, %d", s, told(m), e)
			}
		}
		if strings.Join(got, "\n") != strings.Join(x.out, "\n") {
			t.Fatalf("P21.1: %q:\n%s\nwant\n%s", s, strings.Join(got, "\n"), strings.Join(x.out, "\n"))
		}
		shown += len(got)
	}
	if shown < 10000 || over > 100 {
		t.Errorf("%d codes were shown, %d texts were not representable", shown, over)
	}
}

// Whatever the operators are, there is an answer, and the boxes of marks are right.
func TestAnyOperators(t *testing.T) {
	r := rand.New(rand.NewSource(211))
	seen := 0
	for range 30000 {
		s := ""
		for range r.Intn(10) {
			s += []string{"q", "Q", "2 0 0 2 1 1 cm", "1 w", "1 g", "1 2 3 rg", "1 1 m", "2 3 l", "1 1 2 2 re", "h", "S", "n", "BT", "ET", "/F 1 Tf", "/W 2 Tf", "(A ) Tj", "[ (AB) 5 ] TJ", "1 1 Td", "/X Do", "BI ID x EI", "EMC", "0.00000001 Tz", "(A) '", "2 Tr", "x"}[r.Intn(26)] + " "
		}
		l, e := view.See(parse(t, s), fonts())
		if e != api.OK && l != nil {
			t.Fatalf("R1: %q: %d marks, %d", s, len(l), e)
		}
		for _, m := range l {
			if b, e := view.Box(m, fonts()); b != m.Box || e != api.OK {
				t.Fatalf("P21.3: %q: %s: %s, %d", s, told(m), boxText(b), e)
			}
			for i := 1; i < len(m.State); i++ {
				if m.State[i-1].Name >= m.State[i].Name {
					t.Fatalf("P21.1: %q: %s", s, told(m))
				}
			}
		}
		seen += len(l)
	}
	if seen < 500 {
		t.Errorf("only %d marks were seen", seen)
	}
	// Marks of operators that are not valid are no trouble.
	for range 2000 {
		m := api.Mark{Kind: r.Intn(6) - 1, Name: []string{"F", "X", ""}[r.Intn(3)], Code: r.Intn(70000) - 2000, M: api.Mat{A: api.Dec{M: r.Intn(30), S: r.Intn(3) - 1}}}
		for range r.Intn(4) {
			o, _, _ := obj.Parse([]byte([]string{"1", "(a)", "[ 1 ]", "5 0 R"}[r.Intn(4)]), 0)
			m.Ops = append(m.Ops, api.Op{Name: []string{"m", "l", "re", "S", "true", "h"}[r.Intn(6)], Args: []api.Obj{o, o}[:r.Intn(3)]})
		}
		b, e := view.Box(m, fonts())
		if e != api.OK && b != (api.Box{}) {
			t.Fatalf("R1: %v: %v, %d", m, b, e)
		}
		if e == api.OK && m.Kind == api.MarkPath {
			if _, f := ops.Print(m.Ops); f != api.OK {
				t.Fatalf("P21.2: %v: %v", m, b)
			}
		}
	}
}
