package surd_test

import (
	"math/big"
	"reflect"
	"testing"

	"pellicle/api"
	"pellicle/frac"
	"pellicle/surd"
	"pellicle/zed"
)

// P4.1: Of gives the number with these parts, in their order; Field and Parts tell it as it was made.
func TestOf(t *testing.T) {
	samples(func(f field, p four) {
		is(t, "Of", number(f.m, f.n, p), big.NewInt(f.m), big.NewInt(f.n), p)
	})
	long := new(big.Rat).SetFrac(power(-7, 9001), power(10, 5000))
	is(t, "Of", wide(power(10, 9000), power(3, 20000), small(0, 1).plus(long)), power(10, 9000), power(3, 20000), small(0, 1).plus(long))
}

// P4.1: parts that are missing are 0.
func TestOfFewParts(t *testing.T) {
	two, three := zed.Of(2), zed.Of(3)
	l := rationals(four{ratio(-1, 2), ratio(5, 3), ratio(7, 1), ratio(-9, 4)})
	for count := range 5 {
		p := small()
		for i := range count {
			p[i] = []*big.Rat{ratio(-1, 2), ratio(5, 3), ratio(7, 1), ratio(-9, 4)}[i]
		}
		a, e := surd.Of(two, three, l[:count]...)
		goes(t, "Of", e)
		is(t, "Of", a, big.NewInt(2), big.NewInt(3), p)
	}
	for _, none := range [][]frac.Rat{nil, {}} {
		a, e := surd.Of(two, three, none...)
		goes(t, "Of no parts", e)
		is(t, "Of no parts", a, big.NewInt(2), big.NewInt(3), small())
	}
}

// P4.1: a field's number below 0, or more than four parts, is ErrArg.
func TestOfWrong(t *testing.T) {
	below := []zed.Int{zed.Of(-1), zed.Of(-2), zed.Of(-4), zed.Of(-1 << 63), integer(power(-3, 20001))}
	some := []zed.Int{{}, zed.Of(1), zed.Of(2), integer(power(3, 20000))}
	for count := range 5 {
		parts := make([]frac.Rat, count)
		for _, x := range below {
			for _, y := range append(some, below...) {
				a, e := surd.Of(x, y, parts...)
				fails(t, "m below 0", a, e, api.ErrArg)
				a, e = surd.Of(y, x, parts...)
				fails(t, "n below 0", a, e, api.ErrArg)
			}
		}
	}
	for _, count := range []int{5, 6, 8, 1000} { // of noughts and of others
		for _, part := range []frac.Rat{{}, frac.Whole(zed.Of(1))} {
			parts := make([]frac.Rat, count)
			for i := range parts {
				parts[i] = part
			}
			for _, x := range append(some, below...) {
				a, e := surd.Of(x, x, parts...)
				fails(t, "too many parts", a, e, api.ErrArg)
			}
		}
	}
}

// P4.1: the zero value is 0 of the field 0, 0.
func TestZeroValue(t *testing.T) {
	var nought surd.Surd
	made, e := surd.Of(zed.Int{}, zed.Of(0), frac.Rat{})
	goes(t, "Of", e)
	if !reflect.DeepEqual(nought, made) {
		t.Fatal("0 of the field 0, 0 has two forms")
	}
	is(t, "the zero value", nought, new(big.Int), new(big.Int), small())
	if nought.Sign() != 0 || nought.Floor().Sign() != 0 || nought.Near().Sign() != 0 {
		t.Fatal(nought.Sign(), nought.Floor().Text(), nought.Near().Text())
	}
	is(t, "Neg of 0", nought.Neg(), new(big.Int), new(big.Int), small())
	other := number(0, 0, small(3, 5, 7, 11))
	sum, e := nought.Add(other)
	goes(t, "0 + a", e)
	is(t, "0 + a", sum, new(big.Int), new(big.Int), small(3, 5, 7, 11))
	product, e := other.Mul(nought)
	goes(t, "a 0", e)
	is(t, "a 0", product, new(big.Int), new(big.Int), small())
	if order, e := nought.Cmp(other); order != -1 || e != api.OK {
		t.Fatal(order, e)
	}
}
