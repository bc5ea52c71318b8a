package real_test

import (
	"math/big"
	"testing"

	"pellicle/api"
	"pellicle/frac"
	"pellicle/real"
	"pellicle/zed"
)

// P5.2: the chapter's examples, and others that can be told by hand.
func TestEncodeExamples(t *testing.T) {
	for text, want := range map[string][8]byte{
		"1":                                    {0x41, 0x10},
		"-2":                                   {0xc1, 0x20},
		"90":                                   {0x42, 0x5a},
		"1/16":                                 {0x40, 0x10},
		"-1/16":                                {0xc0, 0x10},
		"1/2":                                  {0x40, 0x80},
		"-1/4":                                 {0xc0, 0x40},
		"1/8":                                  {0x40, 0x20},
		"15/16":                                {0x40, 0xf0},
		"16":                                   {0x42, 0x10},
		"45":                                   {0x42, 0x2d},
		"-3/32":                                {0xc0, 0x18},
		"1152921504606847/1152921504606846976": {0x3e, 0x41, 0x89, 0x37, 0x4b, 0xc6, 0xa7, 0xf0},
	} {
		a, _ := frac.Parse(text)
		encodes(t, a, want[:])
	}
}

// P5.2: the bytes are those whose exponent is the least, whichever bytes the number comes from.
func TestEncodeSamples(t *testing.T) {
	samples(func(below bool, exponent int, m uint64) {
		b := value(below, exponent, m)
		want := search(b)
		if want == nil {
			t.Fatal("no bytes of", b)
		}
		encodes(t, number(b), want)
	})
}

// P5.2: numbers that have several exponents, at all of which m is whole and has room.
func TestEncodeLeastExponent(t *testing.T) {
	for exponent := 13; exponent < 128; exponent++ {
		for lower := range 14 { // m of 1 goes up 13 digits
			b := value(false, exponent-lower, 1<<(4*lower))
			encodes(t, number(b), lay(false, exponent-13, 1<<52))
			encodes(t, number(b).Neg(), lay(true, exponent-13, 1<<52))
		}
	}
	for exponent := range 13 { // it goes down to the exponent 0, and no further
		encodes(t, number(value(false, exponent, 1)), lay(false, 0, 1<<(4*exponent)))
	}
	encodes(t, number(value(true, 12, 0xf000)), lay(true, 2, 0xf0000000000000))
	encodes(t, number(value(true, 12, 0x10000)), lay(true, 3, 0x10000000000000))
	encodes(t, number(value(true, 8, 0xf000)), lay(true, 0, 0xf00000000000))
}

// P5.2: 0 is eight bytes of 0, however it came about.
func TestEncodeNought(t *testing.T) {
	third, _ := frac.Of(1, 3)
	read, _ := frac.Parse("0/9")
	none, _ := real.Decode(lay(true, 127, 0))
	for _, a := range []frac.Rat{{}, read, none, frac.Whole(zed.Int{}), frac.Rat{}.Neg(), third.Sub(third), third.Neg().Mul(frac.Rat{}), frac.Least()} {
		encodes(t, a, make([]byte, 8))
	}
}

// P5.2: the greatest number that eight bytes mean, and those just above and below it.
func TestEncodeGreatest(t *testing.T) {
	greatest, unit := less(power(252), power(196)), power(-312)
	both(greatest, func(b *big.Rat) { encodes(t, number(b), lay(b.Sign() < 0, 127, full)) })
	both(less(greatest, power(196)), func(b *big.Rat) { encodes(t, number(b), lay(b.Sign() < 0, 127, full-1)) })
	for _, step := range []*big.Rat{power(252), power(196), power(195), power(192), power(1), power(0), power(-1), unit} {
		both(plus(greatest, step), func(b *big.Rat) { encodes(t, number(b), nil) })
	}
	for _, step := range []*big.Rat{power(195), power(192), power(0), unit} {
		both(less(greatest, step), func(b *big.Rat) { encodes(t, number(b), nil) })
	}
	for _, n := range []int{252, 253, 255, 256, 259, 260, 512, 70000} {
		both(power(n), func(b *big.Rat) { encodes(t, number(b), nil) })
	}
	for n := 192; n < 252; n++ {
		both(power(n), func(b *big.Rat) { encodes(t, number(b), search(b)) })
	}
}

// P5.2: the least number above 0 that eight bytes mean, and those just below and above it.
func TestEncodeLeast(t *testing.T) {
	unit := power(-312)
	for m := int64(1); m <= 40; m++ {
		both(times(unit, ratio(m, 1)), func(b *big.Rat) { encodes(t, number(b), lay(b.Sign() < 0, 0, uint64(m))) })
	}
	for _, part := range []*big.Rat{ratio(1, 2), ratio(1, 4), ratio(1, 8), ratio(1, 16), ratio(15, 16), ratio(1, 3), ratio(9, 10), power(-70000), less(power(0), power(-56)), less(power(0), power(-70000)), ratio(3, 2), ratio(17, 16), plus(power(0), power(-56)), ratio(1<<56+1, 2), ratio(full, 2)} {
		both(times(unit, part), func(b *big.Rat) { encodes(t, number(b), nil) })
	}
	for n := 313; n <= 400; n++ {
		both(power(-n), func(b *big.Rat) { encodes(t, number(b), nil) })
	}
}

// P5.2: numbers of 56 bits have bytes, of those of 57 and more just the ones whose noughts below let them down to 56, by whole digits.
func TestEncodeBits(t *testing.T) {
	wide := []uint64{1 << 55, 1<<55 + 1, full - 1, full, 1 << 56, 1<<56 + 1, 1<<56 + 2, 1<<56 + 4, 1<<56 + 8, 1<<56 + 16, 1<<57 - 16, 1<<57 - 15, 1<<57 - 8, 1<<57 - 1, 1 << 57, 1<<60 - 16, 1<<60 - 8, 1<<60 - 1, 1 << 60, 1<<60 + 16, 1<<60 + 256, 1<<64 - 1, 1<<64 - 16, 1<<64 - 256}
	for _, n := range wide {
		b := new(big.Rat).SetInt(new(big.Int).SetUint64(n))
		for shift := -315; shift <= 204; shift += 3 { // so by parts of digits, too
			both(times(b, power(shift)), func(b *big.Rat) { encodes(t, number(b), search(b)) })
		}
	}
	told := map[uint64][]byte{1<<56 - 1: lay(false, 78, full), 1<<56 + 1: nil, 1 << 56: lay(false, 79, 1<<52), 1<<56 + 8: nil, 1<<56 + 16: lay(false, 79, 1<<52+1), 1<<57 - 1: nil}
	for n, want := range told {
		encodes(t, number(new(big.Rat).SetInt(new(big.Int).SetUint64(n))), want)
	}
}

// P5.2: denominators that are powers of 2, of 16 or not.
func TestEncodePowersBelow(t *testing.T) {
	for n := range 320 {
		for _, above := range []int64{1, 3, 5, 15, 17, 1<<52 + 1, 1<<53 - 1, 1<<54 + 1, 1<<55 - 1, 1<<55 + 1, full, 1<<56 + 1} {
			both(times(ratio(above, 1), power(-n)), func(b *big.Rat) { encodes(t, number(b), search(b)) })
		}
	}
}

// P5.2: a denominator that is no power of 2 is ErrRange.
func TestEncodeNoPowerBelow(t *testing.T) {
	for _, d := range []int64{3, 5, 6, 7, 9, 10, 12, 15, 17, 24, 48, 100, 1000, 1<<32 - 1, 1<<32 + 1, 1e9, 1<<62 + 1, 1<<62 + 1<<61} {
		for _, n := range []int64{1, 2, 7, 16, 1 << 40, full} {
			b := ratio(n, d)
			if b.Denom().TrailingZeroBits() == uint(b.Denom().BitLen()-1) { // what isn't a power of 2 was shortened away
				continue
			}
			for _, by := range []*big.Rat{power(0), power(-300), power(200)} {
				both(times(b, by), func(b *big.Rat) { encodes(t, number(b), nil) })
			}
		}
	}
	thousandth, _ := frac.Of(1, 1000)
	if b, e := real.Encode(thousandth); e != api.ErrRange || b != nil {
		t.Fatal(b, e)
	}
}

// P5.2: numbers whose parts are longer than any of a real's are ErrRange.
func TestEncodeLong(t *testing.T) {
	odd := new(big.Rat).SetInt(new(big.Int).Exp(big.NewInt(3), big.NewInt(20000), nil))
	under := new(big.Rat).Inv(odd)
	for _, b := range []*big.Rat{odd, under, times(power(40000), under), times(power(-312), under), times(odd, power(-1)), plus(power(70000), power(-1)), plus(power(70000), ratio(1, 3)), plus(power(70000), power(0)), plus(power(1), power(-70000)), plus(power(-312), power(-70000)), less(power(0), power(-70000))} {
		both(b, func(b *big.Rat) { encodes(t, number(b), nil) })
	}
}
