package zed_test

import (
	"math/big"
	"testing"

	"pellicle/zed"
)

// within: is a as near to 0 as b?
func within(a, b *big.Int) bool { return a.CmpAbs(b) <= 0 }

// divides looks at all that is said of Bezout's answers.
func divides(t *testing.T, a, b *big.Int) {
	t.Helper()
	g, x, y := zed.Bezout(number(a), number(b))
	what := "Bezout of " + short(a.String()) + " and " + short(b.String())
	is(t, what, g, new(big.Int).GCD(nil, nil, new(big.Int).Abs(a), new(big.Int).Abs(b)))
	if number(a).Mul(x).Add(number(b).Mul(y)).Cmp(g) != 0 {
		t.Fatal(what, "makes another number:", g.Text(), x.Text(), y.Text())
	}
	one := big.NewInt(1)
	p, _ := new(big.Int).SetString(x.Text(), 10)
	q, _ := new(big.Int).SetString(y.Text(), 10)
	is(t, what, x, p)
	is(t, what, y, q)
	if !(within(p, b) && within(q, a)) && !(within(p, one) && within(q, one)) {
		t.Fatal(what, "goes too far:", g.Text(), x.Text(), y.Text())
	}
}

// P2.4: g is the greatest number that divides both, and x and y make it, and are small: of all small numbers, 0, the same ones and those below 0 among them.
func TestBezoutSmall(t *testing.T) {
	for a := int64(-60); a <= 60; a++ {
		for b := int64(-60); b <= 60; b++ {
			divides(t, big.NewInt(a), big.NewInt(b))
		}
	}
	g, x, y := zed.Bezout(zed.Of(12), zed.Of(-18))
	if g.Text() != "6" || zed.Of(12).Mul(x).Sub(zed.Of(18).Mul(y)).Text() != "6" {
		t.Fatal(g.Text(), x.Text(), y.Text())
	}
}

// P2.4: of 0 and 0 it is 0; of 0 and another number that one's distance from 0; of a number and itself, or its other side, too.
func TestBezoutEdges(t *testing.T) {
	is(t, "Bezout of 0 and 0", first(zed.Bezout(zed.Int{}, zed.Of(0))), new(big.Int))
	divides(t, new(big.Int), new(big.Int))
	for _, b := range samples() {
		for _, a := range []*big.Int{new(big.Int), big.NewInt(1), big.NewInt(-1), b, new(big.Int).Neg(b), new(big.Int).Mul(b, b), new(big.Int).Mul(b, big.NewInt(-2)), plus(b, 1)} {
			divides(t, a, b)
			divides(t, b, a)
		}
		is(t, "Bezout of 0", first(zed.Bezout(zed.Int{}, number(b))), new(big.Int).Abs(b))
		is(t, "Bezout with 0", first(zed.Bezout(number(b), zed.Int{})), new(big.Int).Abs(b))
		is(t, "Bezout of the same", first(zed.Bezout(number(b), number(b))), new(big.Int).Abs(b))
	}
}

func first(g, x, y zed.Int) zed.Int { return g }

// P2.4: of numbers of many lengths, with and without a divisor in common.
func TestBezoutLong(t *testing.T) {
	pairs(func(_, _ zed.Int, x, y *big.Int) { divides(t, x, y) })
	c := chain(1812433253)
	for words := 1; words < 30; words += 4 {
		both := c.number(words)
		x, y := new(big.Int).Mul(both, c.number(words)), new(big.Int).Mul(both, c.number(1+words/2))
		divides(t, x, y)
		divides(t, y, x)
		divides(t, x, both)
		divides(t, x, c.number(words))
	}
	x, y := big.NewInt(0), big.NewInt(1) // neighbours among Fibonacci's numbers, where Euclid's steps are most
	for range 600 {
		x, y = y, x.Add(x, y)
	}
	divides(t, x, y)
	divides(t, y, new(big.Int).Neg(x))
	divides(t, power(2, 5000), power(6, 1500))
}
