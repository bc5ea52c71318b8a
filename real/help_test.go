package real_test

import (
	"bytes"
	"math/big"
	"testing"

	"pellicle/api"
	"pellicle/frac"
	"pellicle/real"
	"pellicle/zed"
)

const full = 1<<56 - 1 // the greatest m

// scale is 16^(exponent - 78) by math/big.
func scale(exponent int) *big.Rat {
	power := new(big.Int).Exp(big.NewInt(16), big.NewInt(int64(max(exponent-78, 78-exponent))), nil)
	if exponent < 78 {
		return new(big.Rat).SetFrac(big.NewInt(1), power)
	}
	return new(big.Rat).SetInt(power)
}

// value is what sign, exponent and m mean, as chapter 5 says it.
func value(below bool, exponent int, m uint64) *big.Rat {
	b := new(big.Rat).SetInt(new(big.Int).SetUint64(m))
	if below {
		b.Neg(b)
	}
	return b.Mul(b, scale(exponent))
}

// lay lays sign, exponent and m down as bytes.
func lay(below bool, exponent int, m uint64) []byte {
	b := []byte{byte(exponent), byte(m >> 48), byte(m >> 40), byte(m >> 32), byte(m >> 24), byte(m >> 16), byte(m >> 8), byte(m)}
	if below {
		b[0] += 128
	}
	return b
}

// meaning is what eight bytes mean.
func meaning(b []byte) *big.Rat {
	m := new(big.Int).SetBytes(b[1:])
	return value(b[0] >= 128, int(b[0]%128), m.Uint64())
}

// search looks for the bytes of a number by trying the exponents, the least first; none, if there is no such exponent.
func search(b *big.Rat) []byte {
	m := new(big.Rat).Abs(b)
	m.Quo(m, scale(0))
	for exponent := range 128 {
		if m.IsInt() && m.Num().BitLen() <= 56 {
			return lay(b.Sign() < 0, exponent, m.Num().Uint64())
		}
		m.Quo(m, ratio(16, 1))
	}
	return nil
}

// integer makes b a byte at a time, so that it leans on no text.
func integer(b *big.Int) zed.Int {
	var a zed.Int
	for _, word := range new(big.Int).Abs(b).Bytes() {
		a = a.Mul(zed.Of(256)).Add(zed.Of(int(word)))
	}
	if b.Sign() < 0 {
		return a.Neg()
	}
	return a
}

// number makes b.
func number(b *big.Rat) frac.Rat {
	a, _ := frac.Make(integer(b.Num()), integer(b.Denom()))
	return a
}

// power is 2^n, n below 0 too, by math/big.
func power(n int) *big.Rat {
	b := new(big.Int).Lsh(big.NewInt(1), uint(max(n, -n)))
	if n < 0 {
		return new(big.Rat).SetFrac(big.NewInt(1), b)
	}
	return new(big.Rat).SetInt(b)
}

// ratio is n/d by math/big.
func ratio(n, d int64) *big.Rat { return big.NewRat(n, d) }

func plus(a, b *big.Rat) *big.Rat { return new(big.Rat).Add(a, b) }

func less(a, b *big.Rat) *big.Rat { return new(big.Rat).Sub(a, b) }

func times(a, b *big.Rat) *big.Rat { return new(big.Rat).Mul(a, b) }

// both calls do for a number and for the one on the other side of 0.
func both(b *big.Rat, do func(*big.Rat)) {
	do(b)
	do(new(big.Rat).Neg(b))
}

// decodes asks for the number that bytes mean, and that they stay as they are.
func decodes(t *testing.T, b []byte, want *big.Rat) {
	t.Helper()
	before := bytes.Clone(b)
	a, e := real.Decode(b)
	if e != api.OK {
		t.Fatalf("Decode of % x: error %d", before, e)
	}
	if a.Text() != want.RatString() || a.Cmp(number(want)) != 0 || a.Sign() != want.Sign() {
		t.Fatalf("Decode of % x: %s, want %s", before, a.Text(), want.RatString())
	}
	if !bytes.Equal(b, before) {
		t.Fatalf("% x became % x", before, b)
	}
}

// encodes asks for the bytes of a number, or, if they are none, for ErrRange and nothing beside it.
func encodes(t *testing.T, a frac.Rat, want []byte) {
	t.Helper()
	before := a.Text()
	b, e := real.Encode(a)
	switch {
	case want == nil && (e != api.ErrRange || len(b) > 0):
		t.Fatalf("Encode of %s: % x, error %d, want ErrRange", short(before), b, e)
	case want != nil && (e != api.OK || !bytes.Equal(b, want)):
		t.Fatalf("Encode of %s: % x, error %d, want % x", short(before), b, e, want)
	}
	if a.Text() != before {
		t.Fatal("a number changed:", short(before), short(a.Text()))
	}
}

func short(s string) string {
	if len(s) > 200 {
		return s[:200] + ".."
	}
	return s
}

// chain gives numbers that look like chance, the same ones each time.
type chain uint64

func (c *chain) next() uint64 {
	*c ^= *c << 13
	*c ^= *c >> 7
	*c ^= *c << 17
	return uint64(*c)
}

// mantissas are numbers m: the least and the greatest, those around each power of 2, with a bit at each place, and some others.
func mantissas() []uint64 {
	l := []uint64{0, 3, 5, 10, 90, 1000, 0x123456789abcde, 0xedcba987654321, full, full - 1, full - 15, full - 16}
	for n := range 56 {
		l = append(l, 1<<n, 1<<n+1, 1<<n-1, full>>n<<n)
	}
	c := chain(88172645463325252)
	for n := range 56 {
		l = append(l, c.next()>>(8+n))
	}
	return l
}

// samples calls do for the numbers m at each exponent, on both sides of 0.
func samples(do func(below bool, exponent int, m uint64)) {
	l := mantissas()
	for exponent := range 128 {
		for i, m := range l {
			if exponent%9 == 0 || exponent >= 126 || (i+exponent)%7 == 0 {
				do(false, exponent, m)
				do(true, exponent, m)
			}
		}
	}
}

// few are bytes on both sides of 0, those of the same numbers among them.
func few() [][]byte {
	var l [][]byte
	for _, exponent := range []int{0, 1, 63, 64, 77, 78, 79, 80, 126, 127} {
		for _, m := range []uint64{0, 1, 2, 16, 256, 272, 4096, 1 << 52, 0x10000000000001, full - 15, full} {
			l = append(l, lay(false, exponent, m), lay(true, exponent, m))
		}
	}
	return l
}
