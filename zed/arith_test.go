package zed_test

import (
	"math/big"
	"reflect"
	"testing"

	"pellicle/api"
	"pellicle/nat"
	"pellicle/zed"
)

// P2.2: Abs is how far it is from 0, Sign its side, Neg the number on the other one.
func TestAbsSignNeg(t *testing.T) {
	for _, b := range samples() {
		a := number(b)
		if a.Abs().Text() != new(big.Int).Abs(b).String() || a.Sign() != b.Sign() {
			t.Fatal(b, a.Abs().Text(), a.Sign())
		}
		is(t, "Neg", a.Neg(), new(big.Int).Neg(b))
		is(t, "Neg of Neg", a.Neg().Neg(), b)
	}
	if zed.Of(-7).Abs().Cmp(nat.Of(7)) != 0 || zed.Of(-7).Sign() != -1 || zed.Of(0).Sign() != 0 || zed.Of(7).Sign() != 1 {
		t.Fatal("of 7, 0, -7")
	}
}

// P2.2: 0 has one form alone, however it came about.
func TestNoughts(t *testing.T) {
	five := zed.Of(5)
	q, r, _ := zed.Of(0).Floor(zed.Of(-5))
	g, x, y := zed.Bezout(zed.Int{}, zed.Int{})
	nought := []zed.Int{{}, zed.Of(0), zed.Big(nat.Nat{}), zed.Of(0).Neg(), five.Sub(five), five.Neg().Add(five), five.Neg().Mul(zed.Int{}), zed.Int{}.Mul(five.Neg()), zed.Int{}.Sub(zed.Int{}), zed.Sum(), q, r, g, zed.Int{}.Mul(x), zed.Int{}.Mul(y)}
	for _, a := range nought {
		is(t, "0", a, new(big.Int))
		is(t, "-0", a.Neg(), new(big.Int))
		if !reflect.DeepEqual(a, zed.Int{}) {
			t.Fatal("0 isn't the zero value:", a)
		}
		for _, b := range nought {
			if a.Cmp(b) != 0 {
				t.Fatal("0 isn't the same as 0")
			}
		}
		is(t, "0 + -5", a.Add(five.Neg()), big.NewInt(-5))
		is(t, "0 - 5", a.Sub(five), big.NewInt(-5))
	}
}

// P2.2: Cmp tells less, the same, greater.
func TestCmp(t *testing.T) {
	pairs(func(a, b zed.Int, x, y *big.Int) {
		if got := a.Cmp(b); got != x.Cmp(y) {
			t.Fatal(x, y, got)
		}
	})
}

// P2.2: Add, Sub, Mul are the sum, difference, product.
func TestAddSubMul(t *testing.T) {
	pairs(func(a, b zed.Int, x, y *big.Int) {
		is(t, "Add", a.Add(b), new(big.Int).Add(x, y))
		is(t, "Sub", a.Sub(b), new(big.Int).Sub(x, y))
		is(t, "Mul", a.Mul(b), new(big.Int).Mul(x, y))
	})
	far := power(2, 6400)
	is(t, "Add", number(plus(far, -1)).Add(zed.Of(1)), far)
	is(t, "Sub", zed.Of(1).Sub(number(far)), plus(new(big.Int).Neg(far), 1))
}

// P2.2: Sum is of all of them, of none 0, of one that one; what is handed in stays.
func TestSum(t *testing.T) {
	is(t, "Sum of none", zed.Sum(), new(big.Int))
	is(t, "Sum of nil", zed.Sum(nil...), new(big.Int))
	is(t, "Sum of an empty list", zed.Sum([]zed.Int{}...), new(big.Int))
	l := samples()
	sum := new(big.Int)
	for i, b := range l {
		is(t, "Sum of one", zed.Sum(number(b)), b)
		is(t, "Sum of two", zed.Sum(number(b), number(l[len(l)-1-i])), new(big.Int).Add(b, l[len(l)-1-i]))
		sum.Add(sum, b)
		is(t, "Sum", zed.Sum(numbers(l[:i+1])...), sum)
	}
	three := zed.Sum(zed.Of(1), zed.Of(-5), zed.Of(100))
	is(t, "Sum of three", three, big.NewInt(96))
	list := numbers(l)
	zed.Sum(list[: len(list)/2 : len(list)]...)
	for i, b := range l {
		is(t, "what was handed in", list[i], b)
	}
}

// floors holds Floor against the division of math/big whose rest is from 0 on.
func floors(t *testing.T, x, y *big.Int) {
	t.Helper()
	q, r, e := number(x).Floor(number(y))
	if y.Sign() == 0 {
		fails(t, "quotient by 0", q, e, api.ErrZero)
		fails(t, "rest by 0", r, e, api.ErrZero)
		return
	}
	goes(t, "Floor", e)
	quotient, rest := new(big.Int).DivMod(x, y, new(big.Int))
	is(t, "quotient of "+x.String()+" by "+y.String(), q, quotient)
	is(t, "rest of "+x.String()+" by "+y.String(), r, rest)
}

// P2.3: Floor is the quotient for which the rest is from 0 on and less than the divisor's distance from 0.
func TestFloor(t *testing.T) {
	for x := int64(-20); x <= 20; x++ {
		for y := int64(-20); y <= 20; y++ {
			floors(t, big.NewInt(x), big.NewInt(y))
		}
	}
	pairs(func(_, _ zed.Int, x, y *big.Int) { floors(t, x, y) })
	c := chain(521288629)
	for words := 1; words < 40; words += 3 {
		for by := 1; by <= words+1; by += 5 {
			x, y := c.number(words), c.number(by)
			floors(t, x, y)
			for n := int64(-1); n <= 1; n++ { // just at a multiple
				floors(t, plus(new(big.Int).Mul(x, y), n), y)
			}
		}
	}
}

// P2.3: the document's examples, said by their own.
func TestFloorExamples(t *testing.T) {
	for _, c := range [][4]int{{-7, 2, -4, 1}, {7, -2, -3, 1}, {-7, -2, 4, 1}, {7, 2, 3, 1}, {-6, 2, -3, 0}, {-6, -2, 3, 0}, {6, -2, -3, 0}, {-1, 5, -1, 4}, {-1, -5, 1, 4}, {1, -5, 0, 1}, {0, -5, 0, 0}} {
		q, r, e := zed.Of(c[0]).Floor(zed.Of(c[1]))
		if e != api.OK || q.Cmp(zed.Of(c[2])) != 0 || r.Cmp(zed.Of(c[3])) != 0 {
			t.Fatal(c, q.Text(), r.Text(), e)
		}
	}
}

// P2.3: a divisor of 0 is ErrZero, whatever is divided.
func TestFloorByNought(t *testing.T) {
	for _, b := range samples() {
		for _, nought := range []zed.Int{{}, zed.Of(0), zed.Of(0).Neg(), zed.Of(5).Sub(zed.Of(5))} {
			q, r, e := number(b).Floor(nought)
			fails(t, "quotient by 0", q, e, api.ErrZero)
			fails(t, "rest by 0", r, e, api.ErrZero)
		}
	}
}
