package frac_test

import (
	"math/big"
	"testing"

	"pellicle/frac"
	"pellicle/zed"
)

// rounds looks whether Floor and Near of x are the one number of which what is promised holds.
func rounds(t *testing.T, x *big.Rat) {
	t.Helper()
	a := number(x)
	floor, near := rational(t, a.Floor()), rational(t, a.Near())
	left := new(big.Rat).Sub(x, floor)
	if left.Sign() < 0 || left.Cmp(ratio(1, 1)) >= 0 {
		t.Fatalf("Floor of %s: %s", short(x.RatString()), short(floor.RatString()))
	}
	off := new(big.Rat).Sub(x, near)
	tie := off.Abs(off).Cmp(ratio(1, 2))
	if tie > 0 || tie == 0 && near.Num().Bit(0) == 1 {
		t.Fatalf("Near of %s: %s", short(x.RatString()), short(near.RatString()))
	}
}

// rational gives a whole number to math/big.
func rational(t *testing.T, n zed.Int) *big.Rat {
	t.Helper()
	b, ok := new(big.Int).SetString(n.Text(), 10)
	if !ok || n.Cmp(integer(b)) != 0 {
		t.Fatal("no whole number:", short(n.Text()))
	}
	return whole(b)
}

// P3.3: Floor is the greatest whole number that isn't above it; Near the nearest, of two that are as near the even one: of all small quotients.
func TestRoundSmall(t *testing.T) {
	for n := int64(-60); n <= 60; n++ {
		for d := int64(1); d <= 13; d++ {
			rounds(t, ratio(n, d))
		}
	}
}

// P3.3: just between two whole numbers, at them, and a little on either side.
func TestRoundTies(t *testing.T) {
	little := quotient(big.NewInt(1), power(10, 50))
	for _, b := range []*big.Int{new(big.Int), big.NewInt(1), big.NewInt(2), plus(power(2, 63), -1), power(2, 63), plus(power(2, 64), -1), power(2, 64), plus(power(10, 60), 1), power(10, 60)} {
		for _, half := range []int64{-3, -2, -1, 0, 1, 2, 3} {
			for _, side := range []int64{-1, 1} {
				x := new(big.Rat).Add(whole(times(b, side)), ratio(half, 2))
				rounds(t, x)
				rounds(t, new(big.Rat).Add(x, little))
				rounds(t, new(big.Rat).Sub(x, little))
			}
		}
	}
}

// P3.3: of long numbers.
func TestRoundLong(t *testing.T) {
	for _, b := range samples() {
		rounds(t, b)
	}
	c := chain(521288629)
	for words := 1; words < 20; words += 3 {
		for by := 1; by <= words+1; by += 2 {
			rounds(t, c.ratio(words, by))
			rounds(t, new(big.Rat).Add(whole(c.integer(words)), ratio(1, 2)))
		}
	}
}

// P3.3: the document's examples, said by their own, and those below 0.
func TestRoundExamples(t *testing.T) {
	for _, c := range [][4]int{{6, -4, -2, -2}, {5, 2, 2, 2}, {7, 2, 3, 4}, {7, 3, 2, 2}, {8, 3, 2, 3}, {1, 2, 0, 0}, {-1, 2, -1, 0}, {3, 2, 1, 2}, {-3, 2, -2, -2}, {-5, 2, -3, -2}, {-7, 2, -4, -4}, {-1, 3, -1, 0}, {-2, 3, -1, -1}, {2, 3, 0, 1}, {-7, 3, -3, -2}, {-8, 3, -3, -3}, {4, 1, 4, 4}, {-4, 1, -4, -4}, {-5, 1, -5, -5}, {5, 1, 5, 5}, {0, 5, 0, 0}} {
		a, _ := frac.Of(c[0], c[1])
		if a.Floor().Cmp(zed.Of(c[2])) != 0 || a.Near().Cmp(zed.Of(c[3])) != 0 {
			t.Fatal(c, a.Floor().Text(), a.Near().Text())
		}
	}
}
