package nat_test

import (
	"math/big"
	"testing"

	"pellicle/nat"
)

func roots(t *testing.T, b *big.Int) {
	t.Helper()
	root, rest := number(b).Root()
	want := new(big.Int).Sqrt(b)
	is(t, "root", root, want)
	is(t, "rest of root", rest, new(big.Int).Sub(b, want.Mul(want, want)))
}

// P1.5: Root is the greatest number whose square isn't above, and what is left.
func TestRoot(t *testing.T) {
	for n := range int64(3000) {
		roots(t, big.NewInt(n))
	}
	for _, b := range samples() {
		roots(t, b)
		square := new(big.Int).Mul(b, b)
		for n := int64(-2); n <= 2; n++ { // around a square
			if x := new(big.Int).Add(square, big.NewInt(n)); x.Sign() >= 0 {
				roots(t, x)
			}
		}
		roots(t, square.Add(square, b)) // between two squares
		roots(t, square.Add(square, b)) // just below the next one
	}
	root, rest := number(new(big.Int).Add(power(10, 20), big.NewInt(5))).Root()
	if root.Text() != "10000000000" || rest.Text() != "5" {
		t.Fatal(root.Text(), rest.Text())
	}
}

// P1.5: Root of each length in bits, and of long numbers.
func TestRootLengths(t *testing.T) {
	for k := range int64(400) {
		roots(t, power(2, k))
		roots(t, new(big.Int).Sub(power(2, k), big.NewInt(1)))
	}
	c := chain(2463534242)
	for _, words := range []int{17, 40, 99, 100} {
		roots(t, c.number(words))
	}
	roots(t, power(2, 65536))
	roots(t, new(big.Int).Sub(power(2, 65537), big.NewInt(1)))
	roots(t, power(3, 20000))
	roots(t, new(big.Int).Sub(power(3, 20000), big.NewInt(1)))
}

func divisors(t *testing.T, x, y *big.Int) {
	t.Helper()
	want := new(big.Int).GCD(nil, nil, x, y)
	is(t, "Gcd", number(x).Gcd(number(y)), want)
	is(t, "Gcd", number(y).Gcd(number(x)), want)
}

// P1.5: Gcd is the greatest number that divides both.
func TestGcd(t *testing.T) {
	for x := range int64(80) {
		for y := range int64(80) {
			divisors(t, big.NewInt(x), big.NewInt(y))
		}
	}
	l := few(2)
	for i, x := range l {
		for _, y := range l[:i+1] {
			divisors(t, x, y)
		}
	}
	if s := nat.Of(48).Gcd(nat.Of(180)).Text(); s != "12" {
		t.Fatal(s)
	}
}

// P1.5: of 0 and 0 the greatest divisor is 0; of 0 and another number, that number.
func TestGcdOfNought(t *testing.T) {
	is(t, "Gcd", (nat.Nat{}).Gcd(nat.Nat{}), new(big.Int))
	is(t, "Gcd", nat.Of(0).Gcd(nat.Nat{}), new(big.Int))
	for _, b := range samples() {
		is(t, "Gcd", number(b).Gcd(nat.Nat{}), b)
		is(t, "Gcd", (nat.Nat{}).Gcd(number(b)), b)
		is(t, "Gcd", number(b).Gcd(number(b)), b)
		is(t, "Gcd", number(b).Gcd(nat.Of(1)), big.NewInt(1))
	}
}

// P1.5: Gcd of numbers that are made to have a divisor in common, of powers of 2, and of unlike lengths.
func TestGcdMade(t *testing.T) {
	c := chain(1812433253)
	for words := 1; words < 12; words++ {
		for k := range 4 {
			both := new(big.Int).Lsh(c.number(words), uint(words*k*11))
			x := new(big.Int).Mul(both, c.number(1+words%3))
			y := new(big.Int).Mul(both, c.number(1+k*5))
			divisors(t, x, y)
			divisors(t, x, both)
			divisors(t, x.Lsh(x, 70), y)
		}
	}
	for _, k := range []int64{0, 1, 63, 64, 65, 200} {
		for _, m := range []int64{0, 1, 64, 128, 200} {
			divisors(t, power(2, k), power(2, m))
			divisors(t, new(big.Int).Mul(power(2, k), big.NewInt(15)), new(big.Int).Mul(power(2, m), big.NewInt(21)))
		}
	}
}

// P1.5: Gcd of neighbours among Fibonacci's numbers, where dividing takes longest, and of long numbers.
func TestGcdLong(t *testing.T) {
	x, y := big.NewInt(0), big.NewInt(1)
	for range 1000 {
		x, y = y, x.Add(x, y)
	}
	divisors(t, x, y)
	divisors(t, power(2, 30000), power(6, 9000))
	divisors(t, power(15, 2000), power(21, 2500))
	divisors(t, new(big.Int).Sub(power(2, 9000), big.NewInt(1)), new(big.Int).Sub(power(2, 6000), big.NewInt(1)))
}
