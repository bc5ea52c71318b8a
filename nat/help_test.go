package nat_test

import (
	"math/big"
	"testing"

	"pellicle/api"
	"pellicle/nat"
)

// power is base^n.
func power(base, n int64) *big.Int {
	return new(big.Int).Exp(big.NewInt(base), big.NewInt(n), nil)
}

// ofWords is the number of words of 64 bits, the highest first.
func ofWords(words ...uint64) *big.Int {
	b := new(big.Int)
	for _, w := range words {
		b.Lsh(b, 64).Or(b, new(big.Int).SetUint64(w))
	}
	return b
}

// number makes b by Of, Up and Add, so that it leans on no text.
func number(b *big.Int) nat.Nat {
	var a nat.Nat
	low := new(big.Int).SetUint64(1<<64 - 1)
	for k := (b.BitLen() + 63) / 64 * 64; k > 0; k -= 64 {
		word := new(big.Int).Rsh(b, uint(k-64))
		a, _ = a.Up(64)
		a = a.Add(nat.Of(word.And(word, low).Uint64()))
	}
	return a
}

// is looks at a number by each call that tells of one alone, and holds it against the same number made otherwise.
func is(t *testing.T, what string, got nat.Nat, want *big.Int) {
	t.Helper()
	if got.Text() != want.String() {
		t.Fatalf("%s: text %s, want %s", what, short(got.Text()), short(want.String()))
	}
	if got.Bits() != want.BitLen() {
		t.Fatalf("%s: %d bits, want %d", what, got.Bits(), want.BitLen())
	}
	word, fits := got.Word()
	if fits != want.IsUint64() || fits && word != want.Uint64() || !fits && word != 0 {
		t.Fatalf("%s: word %d %v of %s", what, word, fits, short(want.String()))
	}
	if same := number(want); got.Cmp(same) != 0 || same.Cmp(got) != 0 {
		t.Fatalf("%s: %s isn't the same as itself", what, short(want.String()))
	}
}

// fails asks for an error, and for a zero beside it.
func fails(t *testing.T, what string, got nat.Nat, e, want api.Errno) {
	t.Helper()
	if e != want {
		t.Fatalf("%s: error %d, want %d", what, e, want)
	}
	is(t, what, got, new(big.Int))
}

// goes asks for no error.
func goes(t *testing.T, what string, e api.Errno) {
	t.Helper()
	if e != api.OK {
		t.Fatalf("%s: error %d", what, e)
	}
}

func short(s string) string {
	if len(s) > 200 {
		return s[:200] + ".."
	}
	return s
}

// chain gives numbers that look like chance, the same ones each time.
type chain uint64

func (c *chain) next() uint64 {
	*c ^= *c << 13
	*c ^= *c >> 7
	*c ^= *c << 17
	return uint64(*c)
}

// number of so many words, some of which are 0 or full, where carries and borrows go far.
func (c *chain) number(words int) *big.Int {
	list := make([]uint64, words)
	for i := range list {
		switch list[i] = c.next(); list[i] % 5 {
		case 0:
			list[i] = 0
		case 1:
			list[i] = 1<<64 - 1
		case 2:
			list[i] >>= list[i] / 5 % 64
		}
	}
	return ofWords(list...)
}

// samples are numbers at which an arithmetic of words may break: around powers of 2 and of 10, and mixed ones.
func samples() []*big.Int {
	var l []*big.Int
	for n := range int64(12) {
		l = append(l, big.NewInt(n))
	}
	around := func(b *big.Int) {
		for n := int64(-1); n <= 1; n++ {
			l = append(l, new(big.Int).Add(b, big.NewInt(n)))
		}
	}
	for _, k := range []int64{8, 16, 30, 31, 32, 33, 48, 62, 63, 64, 65, 95, 96, 127, 128, 129, 192, 256, 300} {
		around(power(2, k))
	}
	for _, k := range []int64{2, 8, 9, 10, 18, 19, 20, 27, 36, 60} {
		around(power(10, k))
	}
	c := chain(88172645463325252)
	for words := 1; words <= 10; words++ {
		for range 4 {
			l = append(l, c.number(words))
		}
	}
	return l
}

// few is every n-th of the samples.
func few(n int) []*big.Int {
	var l []*big.Int
	for i, b := range samples() {
		if i%n == 0 {
			l = append(l, b)
		}
	}
	return l
}
