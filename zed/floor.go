package zed

import (
	"pellicle/api"
	"pellicle/nat"
)

// Floor: the quotient for which the rest is from 0 on, and the rest.
func (a Int) Floor(b Int) (Int, Int, api.Errno) {
	quotient, rest, e := a.Nat.Div(b.Nat)
	if e != api.OK {
		return Int{}, Int{}, e
	}
	if a.Sign() < 0 && rest.Bits() > 0 { // the rest of the distance is below 0 here: one divisor more lifts it
		quotient = quotient.Add(nat.Of(1))
		rest, _ = b.Nat.Sub(rest)
	}
	return signed(quotient, a.below != b.below), Int{rest, false}, api.OK
}

// Bezout: what divides both, and of what it is made.
func Bezout(a, b Int) (Int, Int, Int) {
	// Euclid's steps: x times |a| is g, and xNext times |a| is next, but for multiples of |b|. Both stay small till the rest is 0.
	g, next := Big(a.Nat), Big(b.Nat)
	x, xNext := Of(1), Int{}
	for next.Sign() > 0 {
		q, rest, _ := g.Floor(next)
		g, next = next, rest
		x, xNext = xNext, x.Sub(q.Mul(xNext))
	}
	x = x.Mul(Of(a.Sign()))
	y, _, _ := g.Sub(a.Mul(x)).Floor(b) // by 0 it answers 0, which is right for y
	return g, x, y
}
