package octant_test

import (
	"math/big"
	"testing"

	"pellicle/api"
	"pellicle/frac"
	"pellicle/octant"
	"pellicle/surd"
	"pellicle/zed"
)

// ratio is n/d by math/big.
func ratio(n, d int64) *big.Rat { return big.NewRat(n, d) }

// number is one + two √2 by math/big.
type number struct{ one, two *big.Rat }

// flat is a number without √2.
func flat(a *big.Rat) number { return number{a, new(big.Rat)} }

func (a number) plus(b number) number {
	return number{new(big.Rat).Add(a.one, b.one), new(big.Rat).Add(a.two, b.two)}
}

func (a number) neg() number {
	return number{new(big.Rat).Neg(a.one), new(big.Rat).Neg(a.two)}
}

func (a number) times(by *big.Rat) number {
	return number{new(big.Rat).Mul(a.one, by), new(big.Rat).Mul(a.two, by)}
}

// overRoot is a divided by √2.
func (a number) overRoot() number {
	return number{a.two, new(big.Rat).Mul(a.one, ratio(1, 2))}
}

func (a number) like(b number) bool { return a.one.Cmp(b.one) == 0 && a.two.Cmp(b.two) == 0 }

func (a number) text() string { return a.one.RatString() + "+" + a.two.RatString() + "r" }

// sign is that of one + two √2.
func (a number) sign() int {
	if a.one.Sign()*a.two.Sign() >= 0 {
		return max(-1, min(1, a.one.Sign()+a.two.Sign()))
	}
	first, second := new(big.Rat).Mul(a.one, a.one), new(big.Rat).Mul(a.two, a.two)
	return a.one.Sign() * first.Cmp(second.Add(second, second))
}

// floor is the greatest whole number that isn't above a: a guess, mended till it is.
func (a number) floor() *big.Int {
	root := new(big.Float).SetPrec(600).Sqrt(big.NewFloat(2).SetPrec(600))
	root.Mul(root, new(big.Float).SetPrec(600).SetRat(a.two))
	n, _ := root.Add(root, new(big.Float).SetPrec(600).SetRat(a.one)).Int(nil)
	step := big.NewInt(1)
	less := func() number { return a.plus(flat(new(big.Rat).SetInt(n)).neg()) }
	for less().sign() >= 0 {
		n.Add(n, step)
	}
	for less().sign() < 0 {
		n.Sub(n, step)
	}
	return n
}

// near is the nearest whole number, of two the even one.
func (a number) near() *big.Int {
	raised := a.plus(flat(ratio(1, 2)))
	n := raised.floor()
	if raised.like(flat(new(big.Rat).SetInt(n))) && n.Bit(0) == 1 {
		n.Sub(n, big.NewInt(1))
	}
	return n
}

// spot is a point by math/big.
type spot struct{ x, y number }

func (p spot) plus(q spot) spot { return spot{p.x.plus(q.x), p.y.plus(q.y)} }

// eighth is the spot, turned by 45 degrees.
func (p spot) eighth() spot {
	return spot{p.x.plus(p.y.neg()).overRoot(), p.x.plus(p.y).overRoot()}
}

// at is a spot on the grid.
func at(x, y int64) spot { return spot{flat(ratio(x, 1)), flat(ratio(y, 1))} }

// way is what a Turn is, as chapter 8's words say it.
type way struct {
	flip   bool
	mag    *big.Rat
	octant int
	move   spot
}

// takes gives where the spot comes to: step by step, in the order of the words.
func (w way) takes(p spot) spot {
	if w.flip {
		p.y = p.y.neg()
	}
	p = spot{p.x.times(w.mag), p.y.times(w.mag)}
	for range w.octant {
		p = p.eighth()
	}
	return p.plus(w.move)
}

// rational makes b.
func rational(b *big.Rat) frac.Rat {
	a, e := frac.Parse(b.RatString())
	if e != api.OK {
		panic(e)
	}
	return a
}

// turn makes a Turn of a way whose move has no √2.
func (w way) turn(t *testing.T) octant.Turn {
	t.Helper()
	if w.move.x.two.Sign() != 0 || w.move.y.two.Sign() != 0 {
		t.Fatal("no Make moves by √2")
	}
	a, e := octant.Make(w.flip, rational(w.mag), w.octant, rational(w.move.x.one), rational(w.move.y.one))
	if e != api.OK {
		t.Fatalf("Make: error %d", e)
	}
	return a
}

// of makes a number of that field.
func of(m, n zed.Int, parts ...*big.Rat) surd.Surd {
	var l []frac.Rat
	for _, part := range parts {
		l = append(l, rational(part))
	}
	a, e := surd.Of(m, n, l...)
	if e != api.OK {
		panic(e)
	}
	return a
}

// place makes a spot a place of the field 2, 0.
func (p spot) place() octant.Place {
	m, n := zed.Of(2), zed.Of(0)
	return octant.Place{X: of(m, n, p.x.one, p.x.two), Y: of(m, n, p.y.one, p.y.two)}
}

// inField asks for a field.
func inField(t *testing.T, what string, a surd.Surd, m, n zed.Int) {
	t.Helper()
	k, l := a.Field()
	if k.Cmp(m) != 0 || l.Cmp(n) != 0 {
		t.Fatalf("%s: field %s, %s, want %s, %s", what, k.Text(), l.Text(), m.Text(), n.Text())
	}
}

// isNumber holds a Surd of the field 2, 0 against what it should be. What it has of √0 counts nothing.
func isNumber(t *testing.T, what string, got surd.Surd, want number) {
	t.Helper()
	inField(t, what, got, zed.Of(2), zed.Of(0))
	parts := got.Parts()
	if parts[0].Text() != want.one.RatString() || parts[1].Text() != want.two.RatString() {
		t.Fatalf("%s: %s+%sr, want %s", what, parts[0].Text(), parts[1].Text(), want.text())
	}
}

// isPlace holds a place of the field 2, 0 against what it should be.
func isPlace(t *testing.T, what string, got octant.Place, want spot) {
	t.Helper()
	isNumber(t, what+", x", got.X, want.x)
	isNumber(t, what+", y", got.Y, want.y)
}

// isWay holds what a Turn tells of itself against what it should be.
func isWay(t *testing.T, what string, got octant.Turn, want way) {
	t.Helper()
	if got.Flip() != want.flip || got.Octant() != want.octant || got.Mag().Text() != want.mag.RatString() {
		t.Fatalf("%s: %t, %s, %d, want %t, %s, %d", what, got.Flip(), got.Mag().Text(), got.Octant(), want.flip, want.mag.RatString(), want.octant)
	}
	isPlace(t, what+", Move", got.Move(), want.move)
}

// noTurn asks for the zero value, which is no turn at all.
func noTurn(t *testing.T, what string, got octant.Turn) {
	t.Helper()
	isWay(t, what, got, way{false, ratio(1, 1), 0, at(0, 0)})
	isPlace(t, what, got.At(api.Pt{X: 3, Y: -7}), at(3, -7))
}

// noPlace asks for the zero value.
func noPlace(t *testing.T, what string, got octant.Place) {
	t.Helper()
	for _, a := range []surd.Surd{got.X, got.Y} {
		inField(t, what, a, zed.Of(0), zed.Of(0))
		for _, part := range a.Parts() {
			if part.Sign() != 0 {
				t.Fatalf("%s: a part of %s", what, part.Text())
			}
		}
	}
}

// likePlaces asks for places of one field that are the same points.
func likePlaces(t *testing.T, what string, p, q octant.Place) {
	t.Helper()
	x, e := p.X.Cmp(q.X)
	y, f := p.Y.Cmp(q.Y)
	if x != 0 || y != 0 || e != api.OK || f != api.OK {
		t.Fatalf("%s: x %d, error %d; y %d, error %d", what, x, e, y, f)
	}
}

// ways are those of all octants, with and without flip, of mags below, at and above 1, with some moves.
func ways() []way {
	moves := []spot{at(0, 0), at(-5, 12), {flat(ratio(1, 2)), flat(ratio(-7, 3))}, {flat(ratio(1<<40, 3)), flat(ratio(0, 1))}}
	var l []way
	for _, flip := range []bool{false, true} {
		for k := range 8 {
			for _, mag := range []*big.Rat{ratio(1, 1000), ratio(2, 3), ratio(1, 1), ratio(5, 2), ratio(1<<33, 1)} {
				for _, move := range moves {
					l = append(l, way{flip, mag, k, move})
				}
			}
		}
	}
	return l
}

// few is each n-th of the ways.
func few(n int) []way {
	var l []way
	for i, w := range ways() {
		if i%n == 0 {
			l = append(l, w)
		}
	}
	return l
}

const (
	least = -1 << 63   // the least int
	most  = 1<<63 - 1  // the greatest one
	low   = -1 << 31   // the grid's least coordinate
	high  = 1<<31 - 1  // its greatest one
	far   = 1<<40 + 57 // beyond the grid's
)

// points are some of the grid, those at its ends among them, and some beyond.
func points() []api.Pt {
	l := []api.Pt{{}, {X: 1}, {Y: 1}, {X: 3, Y: 1}, {X: -2, Y: 5}, {X: -4, Y: -4}}
	ends := []int{least, low, high, far, most}
	for i, x := range ends {
		l = append(l, api.Pt{X: x, Y: ends[(i+2)%len(ends)]})
	}
	return append(l, api.Pt{X: low, Y: low}, api.Pt{X: high, Y: high}, api.Pt{X: least, Y: least}, api.Pt{X: most, Y: least})
}

// spotOf is a point of the grid by math/big.
func spotOf(p api.Pt) spot { return at(int64(p.X), int64(p.Y)) }

// chain gives numbers that look like chance, the same ones each time.
type chain uint64

func (c *chain) next() uint64 {
	*c ^= *c << 13
	*c ^= *c >> 7
	*c ^= *c << 17
	return uint64(*c)
}

// ratio of a numerator from -n to n and a denominator from 1 to d.
func (c *chain) ratio(n, d uint64) *big.Rat {
	return ratio(int64(c.next()%(2*n+1))-int64(n), 1+int64(c.next()%d))
}

// spot of ratios.
func (c *chain) spot(n, d uint64) spot {
	return spot{number{c.ratio(n, d), c.ratio(n, d)}, number{c.ratio(n, d), c.ratio(n, d)}}
}
