package octant_test

import (
	"math/big"
	"testing"

	"pellicle/api"
	"pellicle/octant"
	"pellicle/surd"
	"pellicle/zed"
)

// four are the parts of a number of a field.
type four [4]*big.Rat

// parts of ratios.
func (c *chain) parts() four {
	return four{c.ratio(99, 9), c.ratio(99, 9), c.ratio(99, 9), c.ratio(99, 9)}
}

// in makes the number of that field.
func (p four) in(m, n zed.Int) surd.Surd { return of(m, n, p[:]...) }

// plain is the number of a field of the squares 0, 1 and 2 as one + two √2.
func (p four) plain(m, n int) number {
	roots := []number{flat(ratio(0, 1)), flat(ratio(1, 1)), {ratio(0, 1), ratio(1, 1)}}
	x, y := roots[m], roots[n]
	both := x.times(y.one).plus(number{ratio(1, 1).Mul(x.two, y.two), ratio(0, 1)}.times(ratio(2, 1)))
	both = both.plus(number{ratio(0, 1), ratio(1, 1).Mul(x.one, y.two)})
	return flat(p[0]).plus(x.times(p[1])).plus(y.times(p[2])).plus(both.times(p[3]))
}

// P8.3: Far takes places of fields whose squares are 0, 1 or 2 where the words say, and tells them in the field 2, 0.
func TestFarPlain(t *testing.T) {
	c := chain(521288629)
	for m := range 3 {
		for n := range 3 {
			for _, w := range ways() {
				p, q := c.parts(), c.parts()
				x, y := zed.Of(m), zed.Of(n)
				got, e := w.turn(t).Far(octant.Place{X: p.in(x, y), Y: q.in(x, y)})
				if e != api.OK {
					t.Fatalf("field %d, %d: error %d", m, n, e)
				}
				isPlace(t, "Far", got, w.takes(spot{p.plain(m, n), q.plain(m, n)}))
			}
		}
	}
}

// P8.3: each part alone, of each of these fields: what √m, √n and √m √n come to, written out.
func TestFarParts(t *testing.T) {
	one, none := ratio(1, 1), ratio(0, 1)
	for _, x := range []struct {
		m, n int
		want [4]string // of one and two √2
	}{
		{0, 0, [4]string{"1+0r", "0+0r", "0+0r", "0+0r"}},
		{0, 1, [4]string{"1+0r", "0+0r", "1+0r", "0+0r"}},
		{0, 2, [4]string{"1+0r", "0+0r", "0+1r", "0+0r"}},
		{1, 0, [4]string{"1+0r", "1+0r", "0+0r", "0+0r"}},
		{1, 1, [4]string{"1+0r", "1+0r", "1+0r", "1+0r"}},
		{1, 2, [4]string{"1+0r", "1+0r", "0+1r", "0+1r"}},
		{2, 0, [4]string{"1+0r", "0+1r", "0+0r", "0+0r"}},
		{2, 1, [4]string{"1+0r", "0+1r", "1+0r", "0+1r"}},
		{2, 2, [4]string{"1+0r", "0+1r", "0+1r", "2+0r"}},
	} {
		for i, want := range x.want {
			p := four{none, none, none, none}
			p[i] = one
			a := p.in(zed.Of(x.m), zed.Of(x.n))
			got, e := octant.Turn{}.Far(octant.Place{X: a, Y: a.Neg()})
			if e != api.OK {
				t.Fatalf("field %d, %d, part %d: error %d", x.m, x.n, i, e)
			}
			parts := got.X.Parts()
			if told := parts[0].Text() + "+" + parts[1].Text() + "r"; told != want {
				t.Fatalf("field %d, %d, part %d: %s, want %s", x.m, x.n, i, told, want)
			}
			isNumber(t, "y", got.Y, p.plain(x.m, x.n).neg())
		}
	}
}

// others are fields of which a square is neither 0, 1 nor 2, though its root may be whole, or √2 so many times; some have squares that end in the bits of a 0, 1 or 2.
func others() [][2]zed.Int {
	two := func(m, n int) [2]zed.Int { return [2]zed.Int{zed.Of(m), zed.Of(n)} }
	l := [][2]zed.Int{two(3, 0), two(0, 3), two(2, 3), two(3, 2), two(3, 3), two(4, 0), two(4, 9), two(1, 4), two(8, 2), two(2, 8), two(18, 50), two(5, 1), two(13, 29), two(most, 2)}
	wide := zed.Of(1 << 32)
	wide = wide.Mul(wide)
	for i := range 3 {
		k := wide.Add(zed.Of(i))
		l = append(l, [2]zed.Int{k, zed.Of(0)}, [2]zed.Int{zed.Of(2), k}, [2]zed.Int{k, k})
	}
	return append(l, [2]zed.Int{zed.Of(1 << 32), zed.Of(1<<32 + 1)})
}

// linear are the parts of c x + s y and the move, part by part.
func linear(c, s *big.Rat, x, y four, move *big.Rat) four {
	var out four
	for i := range out {
		out[i] = ratio(0, 1).Mul(c, x[i])
		out[i].Add(out[i], ratio(0, 1).Mul(s, y[i]))
	}
	out[0].Add(out[0], move)
	return out
}

// quarter gives how x and y go into x', and into y', of a way by quarters.
func (w way) quarter() (c, s, f, g *big.Rat) {
	x, y := w, w
	x.move, y.move = at(0, 0), at(0, 0)
	first, second := x.takes(at(1, 0)), y.takes(at(0, 1))
	return first.x.one, second.x.one, first.y.one, second.y.one
}

// P8.3: Far takes places of any other field, if the octant is even and the move has no √2, and tells them in that field; else it is ErrField.
func TestFarOthers(t *testing.T) {
	c := chain(362436069)
	for _, f := range others() {
		for _, w := range few(3) {
			x, y := c.parts(), c.parts()
			p := octant.Place{X: x.in(f[0], f[1]), Y: y.in(f[0], f[1])}
			got, e := w.turn(t).Far(p)
			if w.octant%2 == 1 {
				if e != api.ErrField {
					t.Fatalf("octant %d: error %d", w.octant, e)
				}
				noPlace(t, "beside an error", got)
				continue
			}
			if e != api.OK {
				t.Fatalf("octant %d, field %s, %s: error %d", w.octant, f[0].Text(), f[1].Text(), e)
			}
			inField(t, "x", got.X, f[0], f[1])
			inField(t, "y", got.Y, f[0], f[1])
			a, b, d, g := w.quarter()
			want := octant.Place{X: linear(a, b, x, y, w.move.x.one).in(f[0], f[1]), Y: linear(d, g, x, y, w.move.y.one).in(f[0], f[1])}
			likePlaces(t, "Far", got, want)
		}
	}
}

// P8.3: a move with √2, in x alone, in y alone or in both, can't be kept in another field, though the octant is even; one from which it is gone can.
func TestFarMoves(t *testing.T) {
	one := ratio(1, 1)
	eighth, back := way{false, one, 1, at(0, 0)}.turn(t), way{false, one, 7, at(0, 0)}.turn(t)
	for _, x := range []struct {
		a    octant.Turn
		want api.Errno
	}{
		{way{false, one, 7, at(1, -1)}.turn(t).Then(eighth), api.ErrField},                                           // √2, 0
		{way{false, one, 7, at(1, 1)}.turn(t).Then(eighth), api.ErrField},                                            // 0, √2
		{way{true, one, 1, at(5, 0)}.turn(t).Then(eighth), api.ErrField},                                             // both
		{way{false, one, 1, at(0, 0)}.turn(t).Then(way{false, one, 7, at(3, 5)}.turn(t)), api.OK},                    // none
		{way{false, one, 0, at(1, 2)}.turn(t).Then(eighth).Then(back), api.OK},                                       // gone
		{way{false, one, 0, at(1, 2)}.turn(t).Then(eighth).Then(eighth), api.OK},                                     // gone
		{way{false, one, 0, at(1, 2)}.turn(t).Then(eighth).Then(back).Then(eighth), api.ErrField},                    // by the octant
		{way{false, one, 7, at(1, 1)}.turn(t).Then(eighth).Then(way{false, one, 4, at(0, 0)}.turn(t)), api.ErrField}, // 0, -√2
		{octant.Turn{}, api.OK},
	} {
		for _, f := range others() {
			p := octant.Place{X: of(f[0], f[1], one, one, one), Y: of(f[0], f[1], one)}
			got, e := x.a.Far(p)
			if e != x.want {
				t.Fatalf("octant %d: error %d, want %d", x.a.Octant(), e, x.want)
			}
			if e != api.OK {
				noPlace(t, "beside an error", got)
			}
		}
		if _, e := x.a.Far(octant.Whole(api.Pt{X: 7, Y: 9})); e != api.OK {
			t.Fatalf("the field 2, 0: error %d", e)
		}
	}
}

// P8.3: a place whose coordinates aren't of one field is ErrField, for each Turn, though they are the same numbers.
func TestFarUnlike(t *testing.T) {
	l := others()
	for m := range 3 {
		for n := range 3 {
			l = append(l, [2]zed.Int{zed.Of(m), zed.Of(n)})
		}
	}
	turns := []octant.Turn{{}, way{true, ratio(1, 2), 2, at(3, 4)}.turn(t), way{false, ratio(1, 1), 1, at(0, 0)}.turn(t)}
	for i, f := range l {
		for j, g := range l {
			if i == j {
				continue
			}
			p := octant.Place{X: of(f[0], f[1], ratio(5, 1)), Y: of(g[0], g[1], ratio(5, 1))}
			for _, a := range turns {
				got, e := a.Far(p)
				if e != api.ErrField {
					t.Fatalf("fields %s, %s and %s, %s: error %d", f[0].Text(), f[1].Text(), g[0].Text(), g[1].Text(), e)
				}
				noPlace(t, "beside an error", got)
			}
		}
	}
}

// P8.3: the zero value of a place is 0 0, of the field 0, 0.
func TestFarZero(t *testing.T) {
	for _, w := range few(5) {
		got, e := w.turn(t).Far(octant.Place{})
		if e != api.OK {
			t.Fatalf("error %d", e)
		}
		isPlace(t, "Far of 0 0", got, w.move)
	}
}
