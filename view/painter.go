package view

import (
	"cmp"
	"slices"

	"erasure/api"
	"erasure/matrix"
)

// graphics is what q saves and Q restores.
type graphics struct {
	c        api.Mat
	settings []api.Op // in the order of their names; never changed in place, since saved states share it
	text     textState
}

// textState is what text operators set.
type textState struct {
	font                                api.Named
	hasFont                             bool
	size, char, word, scale, lead, rise api.Dec
	mode                                int
}

// painter executes operators.
type painter struct {
	fonts   []api.Named
	now     graphics
	saved   []graphics
	path    []api.Op
	inText  bool
	t, line api.Mat
	marks   []api.Mark
}

func newPainter(fonts []api.Named) *painter {
	start := graphics{c: matrix.One(), text: textState{scale: api.Dec{M: 100}}}
	return &painter{fonts: fonts, now: start}
}

// all executes operators, one after the other.
func (p *painter) all(l []api.Op) api.Errno {
	table := actions()
	for _, o := range l {
		a, found := find(table, o.Name)
		if !found {
			return api.ErrKind
		}
		if !fit(o.Args, a.operands) || !p.allows(a.place) {
			return api.ErrForm
		}
		if e := a.run(p, o); e != api.OK {
			return e
		}
	}
	if p.inText || p.inPath() || len(p.saved) > 0 {
		return api.ErrForm
	}
	return api.OK
}

func (p *painter) inPath() bool {
	return len(p.path) > 0
}

func (p *painter) allows(x place) bool {
	switch x {
	case anywhere:
		return true
	case notInPath:
		return !p.inPath()
	case alone:
		return !p.inPath() && !p.inText
	case inText:
		return p.inText
	case pathBegin:
		return !p.inText
	case pathStep, pathPaint, pathDrop:
		return p.inPath()
	}
	return false
}

// mark adds a mark, whose box has the error e.
func (p *painter) mark(m api.Mark, e api.Errno) api.Errno {
	if e != api.OK {
		return e
	}
	if len(p.marks) == maxMarks {
		return api.ErrLong
	}
	p.marks = append(p.marks, m)
	return api.OK
}

func (p *painter) ignore(api.Op) api.Errno {
	return api.OK
}

func (p *painter) save(api.Op) api.Errno {
	if len(p.saved) == maxSaved {
		return api.ErrDeep
	}
	p.saved = append(p.saved, p.now)
	return api.OK
}

func (p *painter) restore(api.Op) api.Errno {
	if len(p.saved) == 0 {
		return api.ErrForm
	}
	last := len(p.saved) - 1
	p.now = p.saved[last]
	p.saved = p.saved[:last]
	return api.OK
}

func (p *painter) transform(o api.Op) api.Errno {
	var c calculator
	p.now.c = c.then(matrixOf(o.Args), p.now.c)
	return c.e
}

func (p *painter) set(o api.Op) api.Errno {
	p.now.settings = with(p.now.settings, o)
	return api.OK
}

// with returns a new list with o in place of what it replaces.
func with(settings []api.Op, o api.Op) []api.Op {
	var l []api.Op
	for _, x := range settings {
		if slot(x.Name) != slot(o.Name) {
			l = append(l, x)
		}
	}
	l = append(l, o)
	slices.SortFunc(l, func(a, b api.Op) int { return cmp.Compare(a.Name, b.Name) })
	return l
}

// slot returns the same for settings that replace one another.
func slot(name string) string {
	switch name {
	case "g", "rg", "k":
		return "g"
	case "G", "RG", "K":
		return "G"
	}
	return name
}

func (p *painter) draw(o api.Op) api.Errno {
	if len(p.path) == maxPath {
		return api.ErrLong
	}
	p.path = append(p.path, o)
	return api.OK
}

func (p *painter) paint(o api.Op) api.Errno {
	b, e := pathBox(p.now.c, p.path)
	m := api.Mark{Kind: api.MarkPath, M: p.now.c, Ops: append(p.path, o), State: slices.Clone(p.now.settings), Box: b}
	p.path = nil
	return p.mark(m, e)
}

func (p *painter) drop(api.Op) api.Errno {
	p.path = nil
	return api.OK
}

func (p *painter) image(o api.Op) api.Errno {
	if o.Args[0].Text == "" {
		return api.ErrForm
	}
	return p.paintImage(api.Mark{Name: o.Args[0].Text})
}

func (p *painter) inlineImage(o api.Op) api.Errno {
	return p.paintImage(api.Mark{Ops: []api.Op{o}})
}

func (p *painter) paintImage(m api.Mark) api.Errno {
	b, e := imageBox(p.now.c)
	m.Kind, m.M, m.State, m.Box = api.MarkImage, p.now.c, slices.Clone(p.now.settings), b
	return p.mark(m, e)
}
