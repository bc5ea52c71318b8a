package real_test

import (
	"math/big"
	"testing"

	"pellicle/api"
	"pellicle/frac"
	"pellicle/real"
)

// P5.1: the chapter's examples, byte by byte.
func TestDecodeExamples(t *testing.T) {
	for _, c := range []struct {
		b    [8]byte
		want string
	}{
		{[8]byte{0x41, 0x10}, "1"},
		{[8]byte{0xc1, 0x20}, "-2"},
		{[8]byte{0x3e, 0x41, 0x89, 0x37, 0x4b, 0xc6, 0xa7, 0xf0}, "1152921504606847/1152921504606846976"},
		{[8]byte{0x42, 0x5a}, "90"},
		{[8]byte{0x4e, 0, 0, 0, 0, 0, 0, 1}, "1"},
		{[8]byte{0x4e, 1, 2, 3, 4, 5, 6, 7}, "283686952306183"},
		{[8]byte{0xce, 0xff, 0xff, 0xff, 0xff, 0xff, 0xff, 0xff}, "-72057594037927935"},
		{[8]byte{0x4d, 0, 0, 0, 0, 0, 0, 1}, "1/16"},
		{[8]byte{0x4d, 0, 0, 0, 0, 0, 0, 8}, "1/2"},
		{[8]byte{0xcf, 0, 0, 0, 0, 0, 0, 3}, "-48"},
	} {
		a, e := real.Decode(c.b[:])
		if e != api.OK || a.Text() != c.want {
			t.Fatalf("% x: %s, error %d, want %s", c.b, a.Text(), e, c.want)
		}
	}
}

// P5.1: the number is that of the sign, the exponent and m.
func TestDecodeSamples(t *testing.T) {
	samples(func(below bool, exponent int, m uint64) {
		decodes(t, lay(below, exponent, m), value(below, exponent, m))
	})
}

// P5.1: each value of each byte, the others 0 or not.
func TestDecodeBytes(t *testing.T) {
	for _, rest := range [][]byte{{78, 0, 0, 0, 0, 0, 0, 0}, {0x41, 0x98, 0x76, 0x54, 0x32, 0x10, 0xfe, 0xdc}, {0xff, 0xff, 0xff, 0xff, 0xff, 0xff, 0xff, 0xff}} {
		for i := range 8 {
			for c := range 256 {
				b := append([]byte{}, rest...)
				b[i] = byte(c)
				decodes(t, b, meaning(b))
			}
		}
	}
}

// P5.1: it is 0, if m is 0, whatever the sign and the exponent are.
func TestDecodeNought(t *testing.T) {
	for first := range 256 {
		a, e := real.Decode([]byte{byte(first), 0, 0, 0, 0, 0, 0, 0})
		if e != api.OK || a.Sign() != 0 || a.Text() != "0" || a.Den().Text() != "1" || a.Cmp(frac.Rat{}) != 0 {
			t.Fatalf("first byte %x: %s, error %d", first, a.Text(), e)
		}
	}
}

// P5.1: the least and the greatest exponent and m.
func TestDecodeEnds(t *testing.T) {
	decodes(t, lay(false, 0, 1), power(-312))
	decodes(t, lay(true, 0, 1), new(big.Rat).Neg(power(-312)))
	decodes(t, lay(false, 0, full), less(power(-256), power(-312)))
	decodes(t, lay(false, 127, 1), power(196))
	decodes(t, lay(false, 127, full), less(power(252), power(196)))
	decodes(t, lay(true, 127, full), less(power(196), power(252)))
}

// P5.1: other than eight bytes are ErrForm.
func TestDecodeWrong(t *testing.T) {
	long := make([]byte, 1<<20)
	for i := range long {
		long[i] = 0x41
	}
	for _, n := range []int{0, 1, 2, 3, 4, 5, 6, 7, 9, 10, 12, 15, 16, 24, 64, 1 << 16, 1 << 20} {
		for _, b := range [][]byte{long[:n], make([]byte, n), long[:n:n]} {
			a, e := real.Decode(b)
			if e != api.ErrForm || a.Text() != "0" {
				t.Fatal(n, "bytes:", a.Text(), e)
			}
		}
	}
	if a, e := real.Decode(nil); e != api.ErrForm || a.Text() != "0" {
		t.Fatal("nil:", a.Text(), e)
	}
}

// P5.1: the bytes that count are those up to the list's end.
func TestDecodeStopsAtTheEnd(t *testing.T) {
	room := []byte{0x41, 0x10, 0, 0, 0, 0, 0, 0, 0xff, 0xff}
	decodes(t, room[:8], ratio(1, 1))
	if _, e := real.Decode(room[:7]); e != api.ErrForm {
		t.Fatal(e)
	}
	if string(room) != "\x41\x10\x00\x00\x00\x00\x00\x00\xff\xff" {
		t.Fatalf("% x", room)
	}
}
