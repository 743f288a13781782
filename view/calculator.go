package view

import (
	"erasure/api"
	"erasure/dec"
	"erasure/matrix"
)

// calculator computes, and keeps its first error.
type calculator struct {
	e api.Errno
}

func (c *calculator) keep(e api.Errno) {
	if c.e == api.OK {
		c.e = e
	}
}

func (c *calculator) add(a, b api.Dec) api.Dec {
	d, e := dec.Add(a, b)
	c.keep(e)
	return d
}

func (c *calculator) mul(a, b api.Dec) api.Dec {
	d, e := dec.Mul(a, b)
	c.keep(e)
	return d
}

func (c *calculator) neg(a api.Dec) api.Dec {
	d, e := dec.Neg(a)
	c.keep(e)
	return d
}

// hundredths returns a / 100.
func (c *calculator) hundredths(a api.Dec) api.Dec {
	return c.mul(a, api.Dec{M: 1, S: 2})
}

// thousandths returns a / 1000.
func (c *calculator) thousandths(a api.Dec) api.Dec {
	return c.mul(a, api.Dec{M: 1, S: 3})
}

func (c *calculator) then(m, n api.Mat) api.Mat {
	out, e := matrix.Then(m, n)
	c.keep(e)
	return out
}

func (c *calculator) step(x, y api.Dec) api.Mat {
	out, e := matrix.Step(x, y)
	c.keep(e)
	return out
}
