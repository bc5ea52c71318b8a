package frac_test

import (
	"math"
	"math/big"
	"testing"

	"pellicle/api"
	"pellicle/frac"
	"pellicle/zed"
)

// power is base^n.
func power(base, n int64) *big.Int {
	return new(big.Int).Exp(big.NewInt(base), big.NewInt(n), nil)
}

// plus is b and n.
func plus(b *big.Int, n int64) *big.Int {
	return new(big.Int).Add(b, big.NewInt(n))
}

// times is b times n.
func times(b *big.Int, n int64) *big.Int {
	return new(big.Int).Mul(b, big.NewInt(n))
}

// integer makes b a byte at a time, so that it leans on no text.
func integer(b *big.Int) zed.Int {
	var a zed.Int
	for _, word := range new(big.Int).Abs(b).Bytes() {
		a = a.Mul(zed.Of(256)).Add(zed.Of(int(word)))
	}
	if b.Sign() < 0 {
		return a.Neg()
	}
	return a
}

// ratio is n/d by math/big.
func ratio(n, d int64) *big.Rat { return big.NewRat(n, d) }

// quotient is n/d by math/big.
func quotient(n, d *big.Int) *big.Rat { return new(big.Rat).SetFrac(n, d) }

// whole is n by math/big.
func whole(n *big.Int) *big.Rat { return new(big.Rat).SetInt(n) }

// number makes b by Make.
func number(b *big.Rat) frac.Rat {
	a, _ := frac.Make(integer(b.Num()), integer(b.Denom()))
	return a
}

func numbers(l []*big.Rat) []frac.Rat {
	var out []frac.Rat
	for _, b := range l {
		out = append(out, number(b))
	}
	return out
}

// of makes n/d of numbers of which d isn't 0.
func of(n, d int) frac.Rat {
	a, _ := frac.Of(n, d)
	return a
}

// is looks at a number by each call that tells of one alone, and holds it against the same number made otherwise.
func is(t *testing.T, what string, got frac.Rat, want *big.Rat) {
	t.Helper()
	if got.Text() != want.RatString() {
		t.Fatalf("%s: text %s, want %s", what, short(got.Text()), short(want.RatString()))
	}
	if got.Num().Cmp(integer(want.Num())) != 0 || got.Den().Cmp(integer(want.Denom())) != 0 {
		t.Fatalf("%s: %s over %s, want %s", what, short(got.Num().Text()), short(got.Den().Text()), short(want.String()))
	}
	if got.Sign() != want.Sign() {
		t.Fatalf("%s: sign %d of %s", what, got.Sign(), short(want.String()))
	}
	if same := number(want); got.Cmp(same) != 0 || same.Cmp(got) != 0 {
		t.Fatalf("%s: %s isn't the same as itself", what, short(want.String()))
	}
}

// fails asks for an error, and for a zero beside it.
func fails(t *testing.T, what string, got frac.Rat, e, want api.Errno) {
	t.Helper()
	if e != want {
		t.Fatalf("%s: error %d, want %d", short(what), e, want)
	}
	is(t, what, got, new(big.Rat))
}

// goes asks for no error.
func goes(t *testing.T, what string, e api.Errno) {
	t.Helper()
	if e != api.OK {
		t.Fatalf("%s: error %d", short(what), e)
	}
}

func short(s string) string {
	if len(s) > 200 {
		return s[:200] + ".."
	}
	return s
}

// chain gives numbers that look like chance, the same ones each time.
type chain uint64

func (c *chain) next() uint64 {
	*c ^= *c << 13
	*c ^= *c >> 7
	*c ^= *c << 17
	return uint64(*c)
}

// integer of so many words, above or below 0.
func (c *chain) integer(words int) *big.Int {
	b := new(big.Int)
	for range words {
		b.Lsh(b, 64).Or(b, new(big.Int).SetUint64(c.next()))
	}
	if c.next()%2 == 0 {
		b.Neg(b)
	}
	return b
}

// ratio of a numerator of so many words, and a denominator of so many.
func (c *chain) ratio(words, by int) *big.Rat {
	return quotient(c.integer(words), c.integer(by))
}

// samples are numbers on both sides of 0: small ones, those around halves and whole numbers, long ones, with and without factors in common.
func samples() []*big.Rat {
	l := []*big.Rat{new(big.Rat)}
	for n := int64(1); n <= 5; n++ {
		for d := int64(1); d <= 4; d++ {
			l = append(l, ratio(n, d))
		}
	}
	near := quotient(big.NewInt(1), power(10, 30))
	for _, b := range []*big.Rat{ratio(1, 2), ratio(7, 1), ratio(math.MaxInt64, 1), ratio(math.MaxInt64, 2), whole(power(2, 63)), quotient(plus(power(2, 64), 1), big.NewInt(2))} {
		l = append(l, new(big.Rat).Sub(b, near), b, new(big.Rat).Add(b, near))
	}
	for _, n := range []int64{6, 30, 210, 1 << 30} {
		l = append(l, ratio(n, 11), ratio(11, n), ratio(1, n), ratio(n+1, n), ratio(n-1, n*n))
	}
	c := chain(88172645463325252)
	for words := 1; words <= 4; words++ {
		l = append(l, c.ratio(words, words), c.ratio(1, words), c.ratio(words, 1), whole(c.integer(words)))
	}
	for _, b := range l {
		if b.Sign() != 0 {
			l = append(l, new(big.Rat).Neg(b))
		}
	}
	return l
}

// few is every n-th of the samples, 0 among them.
func few(n int) []*big.Rat {
	l := []*big.Rat{}
	for i, b := range samples() {
		if i%n == 0 {
			l = append(l, b)
		}
	}
	return l
}

// pairs calls do for all pairs of the samples.
func pairs(do func(a, b frac.Rat, x, y *big.Rat)) {
	l := samples()
	made := numbers(l)
	for i, x := range l {
		for j, y := range l {
			do(made[i], made[j], x, y)
		}
	}
}

// noughts are zeros, each come about otherwise.
func noughts() []frac.Rat {
	third := of(1, 3)
	none, _ := frac.Of(0, -7)
	read, _ := frac.Parse("0/9")
	part, _ := frac.Rat{}.Div(third)
	return []frac.Rat{{}, none, read, part, frac.Whole(zed.Int{}), frac.Rat{}.Neg(), third.Sub(third), third.Neg().Add(third), third.Mul(frac.Rat{}), frac.Rat{}.Mul(third.Neg()), frac.Least(), frac.Most()}
}
