package real_test

import (
	"bytes"
	"testing"

	"pellicle/real"
)

// P5.3: it is whether both mean the same number, by the same bytes or by others, in either order.
func TestSame(t *testing.T) {
	l := few()
	for _, a := range l {
		for _, b := range l {
			before := string(a) + string(b)
			want := meaning(a).Cmp(meaning(b)) == 0
			if real.Same(a, b) != want || real.Same(b, a) != want {
				t.Fatalf("% x and % x: want %t", a, b, want)
			}
			if string(a)+string(b) != before {
				t.Fatalf("% x became % x and % x", before, a, b)
			}
		}
	}
}

// P5.3: a number by each of its bytes is the same; 0 is, by each sign and exponent.
func TestSameByOtherBytes(t *testing.T) {
	for lower := range 14 {
		b := lay(true, 64-lower, 1<<(4*lower))
		if !real.Same(b, lay(true, 64, 1)) || real.Same(b, lay(false, 64, 1)) || real.Same(b, lay(true, 64, 2)) || real.Same(b, lay(true, 65, 1)) {
			t.Fatalf("% x", b)
		}
	}
	for first := range 256 {
		b := []byte{byte(first), 0, 0, 0, 0, 0, 0, 0}
		for other := range 256 {
			if !real.Same(b, []byte{byte(other), 0, 0, 0, 0, 0, 0, 0}) {
				t.Fatal("noughts:", first, other)
			}
		}
		if real.Same(b, lay(false, 0, 1)) || real.Same(lay(true, 0, 1), b) {
			t.Fatal("0 and no 0:", first)
		}
	}
}

// P5.3: bytes that differ in one bit alone mean other numbers, if m isn't 0.
func TestSameLooksAtEachBit(t *testing.T) {
	for _, m := range []uint64{0x80000000000001, 0x123456789abcde, full} {
		a := lay(false, 64, m)
		for bit := range 64 {
			b := bytes.Clone(a)
			b[bit/8] ^= 1 << (bit % 8)
			if real.Same(a, b) || real.Same(b, a) || !real.Same(b, bytes.Clone(b)) {
				t.Fatalf("% x and % x", a, b)
			}
		}
	}
}

// P5.3: other than eight bytes are never the same, not even as themselves.
func TestSameWrong(t *testing.T) {
	one := lay(false, 65, 1<<52)
	room := append(bytes.Clone(one), one...)
	for n := range 17 {
		if n == 8 {
			continue
		}
		for _, b := range [][]byte{room[:n], make([]byte, n)} {
			if real.Same(b, b) || real.Same(b, one) || real.Same(one, b) || real.Same(b, make([]byte, 8)) || real.Same(make([]byte, 8), b) || real.Same(b, nil) {
				t.Fatal(n, "bytes are the same")
			}
		}
	}
	if real.Same(nil, nil) || real.Same(nil, make([]byte, 8)) || real.Same(make([]byte, 8), nil) || real.Same(nil, []byte{}) {
		t.Fatal("nil is the same")
	}
}
