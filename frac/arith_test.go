package frac_test

import (
	"math/big"
	"testing"

	"pellicle/api"
	"pellicle/frac"
)

// P3.2: Sign is -1, 0, 1; Neg is the number on the other side of 0.
func TestSignNeg(t *testing.T) {
	for _, b := range samples() {
		a := number(b)
		if a.Sign() != b.Sign() {
			t.Fatal(b, a.Sign())
		}
		is(t, "Neg", a.Neg(), new(big.Rat).Neg(b))
		is(t, "Neg of Neg", a.Neg().Neg(), b)
	}
}

// P3.2: Cmp is -1, 0, 1: less, the same, greater.
func TestCmp(t *testing.T) {
	pairs(func(a, b frac.Rat, x, y *big.Rat) {
		if got := a.Cmp(b); got != x.Cmp(y) {
			t.Fatal(x, y, got)
		}
	})
	far := power(10, 40) // neighbours that a float wouldn't tell apart
	a, b := number(quotient(plus(far, 1), far)), number(quotient(far, plus(far, -1)))
	if a.Cmp(b) != -1 || b.Cmp(a) != 1 || a.Neg().Cmp(b.Neg()) != 1 || a.Cmp(a) != 0 {
		t.Fatal(a.Cmp(b), b.Cmp(a))
	}
}

// reckons holds the four calls against math/big.
func reckons(t *testing.T, a, b frac.Rat, x, y *big.Rat) {
	t.Helper()
	is(t, "Add", a.Add(b), new(big.Rat).Add(x, y))
	is(t, "Sub", a.Sub(b), new(big.Rat).Sub(x, y))
	is(t, "Mul", a.Mul(b), new(big.Rat).Mul(x, y))
	q, e := a.Div(b)
	if y.Sign() == 0 {
		fails(t, "Div by 0", q, e, api.ErrZero)
		return
	}
	goes(t, "Div", e)
	is(t, "Div", q, new(big.Rat).Quo(x, y))
}

// P3.2: Add, Sub, Mul, Div are the sum, difference, product and quotient, in lowest terms.
func TestAddSubMulDiv(t *testing.T) {
	pairs(func(a, b frac.Rat, x, y *big.Rat) { reckons(t, a, b, x, y) })
	for d := int64(1); d <= 12; d++ { // all ways in which denominators have something in common
		for f := int64(1); f <= 12; f++ {
			for n := int64(-6); n <= 6; n++ {
				x, y := ratio(n, d), ratio(5-n, f)
				reckons(t, number(x), number(y), x, y)
			}
		}
	}
}

// P3.2: long numbers, whose parts have factors in common as products of a few primes do.
func TestLongFactors(t *testing.T) {
	c := chain(1812433253)
	part := func() *big.Int {
		b := power(2, int64(c.next()%150))
		b.Mul(b, power(3, int64(c.next()%90)))
		return b.Mul(b, power(10007, int64(c.next()%9)))
	}
	for range 300 {
		n, m := part(), part()
		if c.next()%2 == 0 {
			n.Neg(n)
		}
		x, y := quotient(n, part()), quotient(m, part())
		if c.next()%4 == 0 { // the sum is short
			y = new(big.Rat).Sub(ratio(1, 6), x)
		}
		reckons(t, number(x), number(y), x, y)
	}
}

// P3.2: a quotient by 0 is ErrZero, whatever is divided and however the 0 came about.
func TestDivByNought(t *testing.T) {
	for _, b := range samples() {
		for _, nought := range noughts() {
			q, e := number(b).Div(nought)
			fails(t, "Div by 0", q, e, api.ErrZero)
		}
	}
}

// P3.2: Least and Most of none are 0.
func TestLeastMostOfNone(t *testing.T) {
	is(t, "Least", frac.Least(), new(big.Rat))
	is(t, "Most", frac.Most(), new(big.Rat))
	is(t, "Least of nil", frac.Least(nil...), new(big.Rat))
	is(t, "Most of nil", frac.Most(nil...), new(big.Rat))
	is(t, "Least of an empty list", frac.Least([]frac.Rat{}...), new(big.Rat))
	is(t, "Most of an empty list", frac.Most([]frac.Rat{}...), new(big.Rat))
}

// P3.2: Least and Most are the least and the greatest of them, of one that one, wherever it stands; what is handed in stays.
func TestLeastMost(t *testing.T) {
	l := samples()
	made := numbers(l)
	for i, b := range l { // of one that one, though it is above or below the 0 of none
		is(t, "Least of one", frac.Least(made[i]), b)
		is(t, "Most of one", frac.Most(made[i]), b)
	}
	pairs(func(a, b frac.Rat, x, y *big.Rat) {
		least, most := x, y
		if x.Cmp(y) > 0 {
			least, most = y, x
		}
		is(t, "Least", frac.Least(a, b), least)
		is(t, "Most", frac.Most(a, b), most)
	})
	for at := range 5 {
		list := []frac.Rat{of(7, 3), of(5, 2), of(9, 4), of(5, 2), of(7, 3)}
		list[at] = of(2, 1)
		is(t, "Least of five", frac.Least(list...), ratio(2, 1))
		list[at] = of(8, 3)
		is(t, "Most of five", frac.Most(list...), ratio(8, 3))
		list[at] = of(-1, 3)
		frac.Least(list...)
		frac.Most(list[:4:5]...)
		is(t, "what was handed in", list[at], ratio(-1, 3))
	}
	least, most := l[0], l[0]
	for i, b := range l {
		if b.Cmp(least) < 0 {
			least = b
		}
		if b.Cmp(most) > 0 {
			most = b
		}
		is(t, "Least of many", frac.Least(made[:i+1]...), least)
		is(t, "Most of many", frac.Most(made[:i+1]...), most)
	}
}
