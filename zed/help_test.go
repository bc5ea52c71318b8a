package zed_test

import (
	"math"
	"math/big"
	"testing"

	"pellicle/api"
	"pellicle/nat"
	"pellicle/zed"
)

// power is base^n.
func power(base, n int64) *big.Int {
	return new(big.Int).Exp(big.NewInt(base), big.NewInt(n), nil)
}

// plus is b and n.
func plus(b *big.Int, n int64) *big.Int {
	return new(big.Int).Add(b, big.NewInt(n))
}

// distance makes a Nat by Of, Up and Add, so that it leans on no text.
func distance(b *big.Int) nat.Nat {
	var a nat.Nat
	for _, word := range new(big.Int).Abs(b).Bytes() {
		a, _ = a.Up(8)
		a = a.Add(nat.Of(uint64(word)))
	}
	return a
}

// number makes b by Big and Neg.
func number(b *big.Int) zed.Int {
	if b.Sign() < 0 {
		return zed.Big(distance(b)).Neg()
	}
	return zed.Big(distance(b))
}

func numbers(l []*big.Int) []zed.Int {
	var out []zed.Int
	for _, b := range l {
		out = append(out, number(b))
	}
	return out
}

// is looks at a number by each call that tells of one alone, and holds it against the same number made otherwise.
func is(t *testing.T, what string, got zed.Int, want *big.Int) {
	t.Helper()
	if got.Text() != want.String() {
		t.Fatalf("%s: text %s, want %s", what, short(got.Text()), short(want.String()))
	}
	if got.Sign() != want.Sign() {
		t.Fatalf("%s: sign %d of %s", what, got.Sign(), short(want.String()))
	}
	n, fits := got.Small()
	if fits != want.IsInt64() || fits && int64(n) != want.Int64() || !fits && n != 0 {
		t.Fatalf("%s: small %d %v of %s", what, n, fits, short(want.String()))
	}
	if got.Abs().Cmp(distance(want)) != 0 {
		t.Fatalf("%s: %s is %s from 0", what, short(want.String()), short(got.Abs().Text()))
	}
	if same := number(want); got.Cmp(same) != 0 || same.Cmp(got) != 0 {
		t.Fatalf("%s: %s isn't the same as itself", what, short(want.String()))
	}
}

// fails asks for an error, and for a zero beside it.
func fails(t *testing.T, what string, got zed.Int, e, want api.Errno) {
	t.Helper()
	if e != want {
		t.Fatalf("%s: error %d, want %d", what, e, want)
	}
	is(t, what, got, new(big.Int))
}

// goes asks for no error.
func goes(t *testing.T, what string, e api.Errno) {
	t.Helper()
	if e != api.OK {
		t.Fatalf("%s: error %d", what, e)
	}
}

func short(s string) string {
	if len(s) > 200 {
		return s[:200] + ".."
	}
	return s
}

// chain gives numbers that look like chance, the same ones each time.
type chain uint64

func (c *chain) next() uint64 {
	*c ^= *c << 13
	*c ^= *c >> 7
	*c ^= *c << 17
	return uint64(*c)
}

// number of so many words, above or below 0.
func (c *chain) number(words int) *big.Int {
	b := new(big.Int)
	for range words {
		b.Lsh(b, 64).Or(b, new(big.Int).SetUint64(c.next()))
	}
	if c.next()%2 == 0 {
		b.Neg(b)
	}
	return b
}

// samples are numbers on both sides of 0: small ones, those around powers of 2 and of 10, and mixed ones.
func samples() []*big.Int {
	var l []*big.Int
	for n := range int64(8) {
		l = append(l, big.NewInt(n))
	}
	around := func(b *big.Int) {
		l = append(l, plus(b, -1), b, plus(b, 1))
	}
	for _, k := range []int64{8, 31, 32, 62, 63, 64, 65, 128, 200} {
		around(power(2, k))
	}
	around(power(10, 9))
	around(power(10, 20))
	c := chain(88172645463325252)
	for words := 1; words <= 6; words++ {
		l = append(l, c.number(words), c.number(words))
	}
	for _, b := range l {
		if b.Sign() != 0 {
			l = append(l, new(big.Int).Neg(b))
		}
	}
	return l
}

// few is every n-th of the samples, and 0.
func few(n int) []*big.Int {
	l := []*big.Int{}
	for i, b := range samples() {
		if i%n == 0 {
			l = append(l, b)
		}
	}
	return l
}

// ints are those at which an int may break.
func ints() []int {
	l := []int{math.MinInt, math.MinInt + 1, math.MinInt + 2, math.MaxInt - 1, math.MaxInt}
	for _, n := range []int{0, 1, 2, 7, 9, 10, 11, 1<<31 - 1, 1 << 31, 1<<32 - 1, 1 << 32, 1 << 62} {
		l = append(l, n, -n)
	}
	return l
}

// pairs calls do for all pairs of the samples.
func pairs(do func(a, b zed.Int, x, y *big.Int)) {
	l := samples()
	made := numbers(l)
	for i, x := range l {
		for j, y := range l {
			do(made[i], made[j], x, y)
		}
	}
}
