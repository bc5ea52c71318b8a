package flat_test

import (
	"math/big"

	"pellicle/api"
	"pellicle/frac"
	"pellicle/octant"
	"pellicle/outline"
)

// A second reckoning of what a library that is in the domain comes to: each reference is gone through for each shape, each point laid step by step, in the order of chapter 8's words, by numbers with √2 of math/big.

// number is one + two √2.
type number struct{ one, two *big.Rat }

// rational is a number without √2.
func rational(a *big.Rat) number { return number{a, new(big.Rat)} }

func whole(n int) number { return rational(ratio(n, 1)) }

func (a number) plus(b number) number {
	return number{new(big.Rat).Add(a.one, b.one), new(big.Rat).Add(a.two, b.two)}
}

func (a number) times(by *big.Rat) number {
	return number{new(big.Rat).Mul(a.one, by), new(big.Rat).Mul(a.two, by)}
}

func (a number) neg() number { return a.times(ratio(-1, 1)) }

// overRoot is a divided by √2.
func (a number) overRoot() number {
	return number{a.two, new(big.Rat).Mul(a.one, ratio(1, 2))}
}

// sign is that of one + two √2.
func (a number) sign() int {
	if a.one.Sign()*a.two.Sign() >= 0 {
		return max(-1, min(1, a.one.Sign()+a.two.Sign()))
	}
	first, second := new(big.Rat).Mul(a.one, a.one), new(big.Rat).Mul(a.two, a.two)
	return a.one.Sign() * first.Cmp(second.Add(second, second))
}

// floor is the greatest whole number that isn't above a: a guess, mended till it is.
func (a number) floor() *big.Int {
	const bits = 600
	root := new(big.Float).SetPrec(bits).Sqrt(big.NewFloat(2).SetPrec(bits))
	root.Mul(root, new(big.Float).SetPrec(bits).SetRat(a.two))
	n, _ := root.Add(root, new(big.Float).SetPrec(bits).SetRat(a.one)).Int(nil)
	left := func() int { return a.plus(rational(new(big.Rat).SetInt(n)).neg()).sign() }
	for left() >= 0 {
		n.Add(n, big.NewInt(1))
	}
	for left() < 0 {
		n.Sub(n, big.NewInt(1))
	}
	return n
}

// near is the nearest whole number, of two the even one.
func (a number) near() *big.Int {
	raised := a.plus(rational(ratio(1, 2)))
	n := raised.floor()
	if raised.plus(rational(new(big.Rat).SetInt(n)).neg()).sign() == 0 && n.Bit(0) == 1 {
		n.Sub(n, big.NewInt(1))
	}
	return n
}

// step is how a copy of a cell is laid.
type step struct {
	flip    bool
	mag     *big.Rat
	degrees *big.Rat
	x, y    *big.Rat
}

// eighths is how many times 45 degrees it turns.
func (s step) eighths() int {
	n := new(big.Rat).Quo(s.degrees, ratio(45, 1)).Num()
	return int(new(big.Int).Mod(n, big.NewInt(8)).Int64())
}

// takes gives where a point comes to.
func (s step) takes(x, y number) (number, number) {
	if s.flip {
		y = y.neg()
	}
	x, y = x.times(s.mag), y.times(s.mag)
	for range s.eighths() {
		x, y = x.plus(y.neg()).overRoot(), x.plus(y).overRoot()
	}
	return x.plus(rational(s.x)), y.plus(rational(s.y))
}

// turn gives the step as chapter 8 has it.
func (s step) turn() octant.Turn {
	parse := func(b *big.Rat) frac.Rat {
		a, e := frac.Parse(b.RatString())
		if e != api.OK {
			panic(e)
		}
		return a
	}
	a, e := octant.Make(s.flip, parse(s.mag), s.eighths(), parse(s.x), parse(s.y))
	if e != api.OK {
		panic(e)
	}
	return a
}

// field gives the body of an item's record of a kind, nil without one.
func field(x api.Item, kind byte) []byte {
	for _, r := range x.Fields {
		if r.Kind == kind {
			return r.Body
		}
	}
	return nil
}

// read gives the numbers of so many bytes each, with a sign.
func read(b []byte, size int) []int {
	var l []int
	for ; len(b) > 0; b = b[size:] {
		n := 0
		for _, next := range b[:size] {
			n = n*256 + int(next)
		}
		if b[0] >= 128 {
			n -= 1 << (8 * size)
		}
		l = append(l, n)
	}
	return l
}

// only gives the one number of a record; without one 0.
func only(x api.Item, kind byte, size int) int {
	l := read(field(x, kind), size)
	if l == nil {
		return 0
	}
	return l[0]
}

// realOf gives the number of a record of a real; without one another number.
func realOf(x api.Item, kind byte, without int) *big.Rat {
	b := field(x, kind)
	if b == nil {
		return ratio(without, 1)
	}
	a := new(big.Rat).SetInt(new(big.Int).SetBytes(b[1:]))
	sixteen := ratio(16, 1)
	for e := int(b[0] & 127); e > 78; e-- {
		a.Mul(a, sixteen)
	}
	for e := int(b[0] & 127); e < 78; e++ {
		a.Quo(a, sixteen)
	}
	if b[0] >= 128 {
		a.Neg(a)
	}
	return a
}

// stepsOf gives how the copies of a reference are laid, one by one.
func stepsOf(x api.Item) []step {
	pts := read(field(x, xy), 4)
	s := step{flip: field(x, strans) != nil && field(x, strans)[0] >= 128, mag: realOf(x, mag, 1), degrees: realOf(x, angle, 0)}
	if x.Fields[0].Kind == sref {
		s.x, s.y = ratio(pts[0], 1), ratio(pts[1], 1)
		return []step{s}
	}
	by := read(field(x, colrow), 2)
	var l []step
	for k := range by[1] {
		for i := range by[0] {
			along := func(n int) *big.Rat {
				out := ratio(pts[n], 1)
				out.Add(out, ratio((pts[n+2]-pts[n])*i, by[0]))
				return out.Add(out, ratio((pts[n+4]-pts[n])*k, by[1]))
			}
			s.x, s.y = along(0), along(1)
			l = append(l, s)
		}
	}
	return l
}

// reckoning gathers shapes.
type reckoning struct {
	u   api.Lib
	out []api.Shape
}

// cell gives a cell by its name.
func (r *reckoning) cell(name string) api.Cell {
	for _, c := range r.u.Cells {
		if nameOf(c.Head[1].Body) == name {
			return c
		}
	}
	panic("no cell " + name)
}

func nameOf(b []byte) string {
	if b[len(b)-1] == 0 {
		b = b[:len(b)-1]
	}
	return string(b)
}

// walk lays a cell by steps, the innermost first.
func (r *reckoning) walk(c api.Cell, steps []step) api.Errno {
	for _, x := range c.Items {
		e := api.OK
		switch x.Fields[0].Kind {
		case sref, aref:
			to := r.cell(nameOf(field(x, sname)))
			for _, s := range stepsOf(x) {
				if e == api.OK {
					e = r.walk(to, append([]step{s}, steps...))
				}
			}
		case boundary:
			e = r.points(x, datatype, steps)
		case box:
			e = r.points(x, 0x2e, steps)
		case path:
			e = r.path(x, steps)
		}
		if e != api.OK {
			return e
		}
	}
	return api.OK
}

// add adds a shape.
func (r *reckoning) add(x api.Item, kind byte, pts []api.Pt) {
	r.out = append(r.out, api.Shape{Layer: only(x, layer, 2), Kind: only(x, kind, 2), Pts: pts})
}

// points lays a BOUNDARY or a BOX.
func (r *reckoning) points(x api.Item, kind byte, steps []step) api.Errno {
	l := read(field(x, xy), 4)
	var pts []api.Pt
	for i := 0; i < len(l)-2; i += 2 {
		a, b := whole(l[i]), whole(l[i+1])
		for _, s := range steps {
			a, b = s.takes(a, b)
		}
		p, q := a.near(), b.near()
		if !onGrid(p) || !onGrid(q) {
			return api.ErrCoord
		}
		pts = append(pts, api.Pt{X: int(p.Int64()), Y: int(q.Int64())})
	}
	r.add(x, kind, pts)
	return api.OK
}

func onGrid(n *big.Int) bool {
	return n.IsInt64() && n.Int64() >= low && n.Int64() <= high
}

// path lays a PATH, by chapter 9's places, all steps put together from the innermost on.
func (r *reckoning) path(x api.Item, steps []step) api.Errno {
	l, e := outline.Of(row(read(field(x, xy), 4)...), only(x, width, 4), only(x, pathtype, 2), only(x, bgnextn, 4), only(x, endextn, 4))
	if e == api.ErrNone || only(x, width, 4) == 0 {
		return api.OK
	}
	if e != api.OK {
		panic("a path outside the domain")
	}
	var all octant.Turn
	for _, s := range steps {
		all = all.Then(s.turn())
	}
	var pts []api.Pt
	for _, p := range l {
		q, e := all.Far(p)
		if e != api.OK {
			return api.ErrFeature
		}
		at, e := octant.Grid(q)
		if e != api.OK {
			return api.ErrCoord
		}
		pts = append(pts, at)
	}
	r.add(x, datatype, pts)
	return api.OK
}

// reckoned gives what a library comes to.
func reckoned(u api.Lib) ([]api.Shape, api.Errno) {
	r := reckoning{u: u}
	below := map[string]int{}
	for _, c := range u.Cells {
		for _, x := range c.Items {
			if b := field(x, sname); b != nil {
				below[nameOf(b)]++
			}
		}
	}
	for _, c := range u.Cells {
		if below[nameOf(c.Head[1].Body)] > 0 {
			continue
		}
		if e := r.walk(c, nil); e != api.OK {
			return nil, e
		}
	}
	return r.out, api.OK
}
