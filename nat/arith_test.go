package nat_test

import (
	"math/big"
	"testing"

	"pellicle/api"
	"pellicle/nat"
)

// pairs calls do for all pairs of the samples.
func pairs(do func(a, b nat.Nat, x, y *big.Int)) {
	l := samples()
	for _, x := range l {
		for _, y := range l {
			do(number(x), number(y), x, y)
		}
	}
}

// P1.3: Add is the sum.
func TestAdd(t *testing.T) {
	pairs(func(a, b nat.Nat, x, y *big.Int) {
		is(t, "Add", a.Add(b), new(big.Int).Add(x, y))
	})
	full := new(big.Int).Sub(power(2, 6400), big.NewInt(1)) // a carry that goes all the way
	is(t, "Add", number(full).Add(nat.Of(1)), power(2, 6400))
	is(t, "Add", nat.Of(1).Add(number(full)), power(2, 6400))
}

// P1.3: Mul is the product.
func TestMul(t *testing.T) {
	pairs(func(a, b nat.Nat, x, y *big.Int) {
		is(t, "Mul", a.Mul(b), new(big.Int).Mul(x, y))
	})
	c := chain(362436069)
	for _, words := range []int{30, 31, 64, 100, 250} {
		x, y := c.number(words), c.number(words/3)
		is(t, "Mul", number(x).Mul(number(y)), new(big.Int).Mul(x, y))
		is(t, "Mul", number(x).Mul(number(x)), new(big.Int).Mul(x, x))
	}
	full := new(big.Int).Sub(power(2, 3200), big.NewInt(1))
	is(t, "Mul", number(full).Mul(number(full)), new(big.Int).Mul(full, full))
}

// P1.3: Sub is the difference, and ErrRange below 0.
func TestSub(t *testing.T) {
	pairs(func(a, b nat.Nat, x, y *big.Int) {
		d, e := a.Sub(b)
		if x.Cmp(y) < 0 {
			fails(t, "Sub", d, e, api.ErrRange)
			return
		}
		goes(t, "Sub", e)
		is(t, "Sub", d, new(big.Int).Sub(x, y))
	})
	d, e := number(power(2, 6400)).Sub(nat.Of(1)) // a borrow that goes all the way
	goes(t, "Sub", e)
	is(t, "Sub", d, new(big.Int).Sub(power(2, 6400), big.NewInt(1)))
}

// P1.3: Div is the quotient and the rest, and ErrZero by 0.
func TestDiv(t *testing.T) {
	pairs(func(a, b nat.Nat, x, y *big.Int) { divides(t, x, y) })
	for _, s := range []string{"0", "1", "99999999999999999999999999"} {
		a, _ := nat.Parse(s)
		for _, nought := range []nat.Nat{{}, nat.Of(0)} {
			q, r, e := a.Div(nought)
			fails(t, "quotient by 0", q, e, api.ErrZero)
			fails(t, "rest by 0", r, e, api.ErrZero)
		}
	}
	q, r, e := number(power(2, 96)).Div(nat.Of(1<<32 + 1))
	if e != api.OK || q.Text() != "18446744069414584320" || r.Text() != "4294967296" {
		t.Fatal(q.Text(), r.Text(), e)
	}
}

func divides(t *testing.T, x, y *big.Int) {
	t.Helper()
	q, r, e := number(x).Div(number(y))
	if y.Sign() == 0 {
		fails(t, "quotient by 0", q, e, api.ErrZero)
		fails(t, "rest by 0", r, e, api.ErrZero)
		return
	}
	goes(t, "Div", e)
	quotient, rest := new(big.Int).QuoRem(x, y, new(big.Int))
	is(t, "quotient", q, quotient)
	is(t, "rest", r, rest)
}

// P1.3: Div by numbers for which a digit that is guessed from the highest ones is too great.
func TestDivGuesses(t *testing.T) {
	ofDigits := func(width uint, digits ...uint64) *big.Int { // the lowest first
		b := new(big.Int)
		for i := len(digits) - 1; i >= 0; i-- {
			b.Lsh(b, width).Or(b, new(big.Int).SetUint64(digits[i]))
		}
		return b
	}
	for _, width := range []uint{8, 16, 32, 64} {
		half, full := uint64(1)<<(width-1), uint64(1)<<width-1 // width 64: 1<<64 wraps to 0
		divides(t, ofDigits(width, 3, 0, half), ofDigits(width, 1, 0, half/4))
		divides(t, ofDigits(width, 0, 0, half, half-1), ofDigits(width, 1, 0, half))
		divides(t, ofDigits(width, 0, full-1, half), ofDigits(width, full, half))
		divides(t, ofDigits(width, 0, full, full, half-1), ofDigits(width, full, full, half))
	}
	digits := []uint64{0, 1, 1<<63 - 1, 1 << 63, 1<<64 - 1}
	at := func(n, k int) uint64 { // the k-th digit of n's list
		for range k {
			n /= len(digits)
		}
		return digits[n%len(digits)]
	}
	for n := range 625 {
		x := ofWords(at(n, 0), at(n, 1), at(n, 2), at(n, 3))
		for m := 1; m < 125; m++ {
			if y := ofWords(at(m, 0), at(m, 1), at(m, 2)); y.Sign() > 0 {
				quickly(t, x, y)
			}
		}
	}
}

// quickly is divides without texts.
func quickly(t *testing.T, x, y *big.Int) {
	t.Helper()
	q, r, e := number(x).Div(number(y))
	quotient, rest := new(big.Int).QuoRem(x, y, new(big.Int))
	if e != api.OK || q.Cmp(number(quotient)) != 0 || r.Cmp(number(rest)) != 0 {
		t.Fatal(x, y, q.Text(), r.Text(), e)
	}
}

// P1.3: Div of long numbers.
func TestDivLong(t *testing.T) {
	c := chain(521288629)
	for _, words := range []int{20, 64, 200} {
		for _, by := range []int{1, 2, 3, words / 2, words - 1, words, words + 1} {
			divides(t, c.number(words), c.number(by))
		}
	}
	x := c.number(100)
	for _, n := range []int64{-1, 0, 1} { // just at a multiple
		m := new(big.Int).Mul(x, c.number(50))
		divides(t, m.Add(m, big.NewInt(n)), x)
	}
}

var shifts = []int{0, 1, 2, 31, 32, 33, 63, 64, 65, 100, 127, 128, 129, 640, 1000}

// P1.4: Up is times 2^k.
func TestUp(t *testing.T) {
	for _, b := range samples() {
		for _, k := range shifts {
			a, e := number(b).Up(k)
			goes(t, "Up", e)
			is(t, "Up", a, new(big.Int).Lsh(b, uint(k)))
		}
	}
	for _, b := range []*big.Int{new(big.Int), big.NewInt(1), ofWords(1<<64-1, 1<<64-1), power(3, 5000)} {
		for _, k := range []int{65535, 65536} {
			a, e := number(b).Up(k)
			goes(t, "Up", e)
			is(t, "Up", a, new(big.Int).Lsh(b, uint(k)))
		}
	}
}

// P1.4: Down is divided by 2^k, rounded down.
func TestDown(t *testing.T) {
	for _, b := range samples() {
		for _, k := range append(shifts, 65535, 65536) {
			a, e := number(b).Down(k)
			goes(t, "Down", e)
			is(t, "Down", a, new(big.Int).Rsh(b, uint(k)))
		}
	}
	for _, b := range []*big.Int{power(2, 65535), power(2, 65536), power(2, 65537), power(3, 50000)} {
		for _, k := range []int{1, 64, 65535, 65536} {
			a, e := number(b).Down(k)
			goes(t, "Down", e)
			is(t, "Down", a, new(big.Int).Rsh(b, uint(k)))
		}
	}
}

// P1.4: a shift that isn't from 0 to 65536 is ErrArg, of 0 too.
func TestWrongShifts(t *testing.T) {
	for _, k := range []int{-1, -2, -64, -65536, 65537, 65600, 1 << 20, 1 << 40, -1 << 63, 1<<63 - 1} {
		for _, b := range []*big.Int{new(big.Int), big.NewInt(1), power(2, 70000)} {
			a, e := number(b).Up(k)
			fails(t, "Up", a, e, api.ErrArg)
			a, e = number(b).Down(k)
			fails(t, "Down", a, e, api.ErrArg)
		}
	}
}
