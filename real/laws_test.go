package real_test

import (
	"bytes"
	"math"
	"math/big"
	"testing"

	"pellicle/api"
	"pellicle/frac"
	"pellicle/real"
	"pellicle/zed"
)

// P5.4: what was encoded is decoded as it was, and of all bytes that mean a number those that are told have the greatest m.
func TestThereAndBack(t *testing.T) {
	samples(func(below bool, exponent int, m uint64) {
		b := lay(below, exponent, m)
		a, _ := real.Decode(b)
		told, e := real.Encode(a)
		if e != api.OK || len(told) != 8 {
			t.Fatalf("% x: % x, error %d", b, told, e)
		}
		again, e := real.Decode(told)
		if e != api.OK || again.Cmp(a) != 0 || again.Text() != a.Text() || !real.Same(b, told) {
			t.Fatalf("% x: % x, error %d", b, told, e)
		}
		if bytes.Compare(told[1:], b[1:]) < 0 || told[0]&127 > b[0]&127 {
			t.Fatalf("% x: told as % x", b, told)
		}
		if m > 0 && told[0]&127 > 0 && told[1] < 16 {
			t.Fatalf("% x: an m that isn't the greatest, % x", b, told)
		}
	})
}

// P5.4: a sum of two reals need not be one; where it is, it is told as others are.
func TestSums(t *testing.T) {
	none := 0
	l := few()
	for i, x := range l {
		for j, y := range l {
			if (i+j)%7 != 0 {
				continue
			}
			a, _ := real.Decode(x)
			b, _ := real.Decode(y)
			want := search(plus(meaning(x), meaning(y)))
			encodes(t, a.Add(b), want)
			if want == nil {
				none++
			}
		}
	}
	if none == 0 {
		t.Fatal("each sum is a real")
	}
	one, _ := real.Decode(lay(false, 78, 1))
	for exponent := range 65 { // from the exponent 65 on the lesser one has room below
		small, _ := real.Decode(lay(false, exponent, 1))
		encodes(t, one.Add(small), nil)
	}
	small, _ := real.Decode(lay(false, 65, 1))
	encodes(t, one.Add(small), lay(false, 65, 1<<52+1))
}

// P5.4: b isn't changed, nor the room behind its end; what was answered stays when b does not.
func TestBytesStay(t *testing.T) {
	for _, b := range few() {
		room := append(bytes.Clone(b), 1, 2, 3)
		before := bytes.Clone(room)
		a, _ := real.Decode(room[:8])
		real.Same(room[:8], room[3:11])
		real.Same(room[:8], room[:8])
		if !bytes.Equal(room, before) {
			t.Fatalf("% x became % x", before, room)
		}
		text := a.Text()
		clear(room)
		if a.Text() != text || text != meaning(b).RatString() {
			t.Fatalf("% x: %s, then %s", b, text, a.Text())
		}
	}
}

// P5.4: answers are new memory: bytes that are written over, or behind, change no other answer and no number.
func TestAnswersAreNew(t *testing.T) {
	for _, b := range few() {
		a, _ := real.Decode(b)
		first, _ := real.Encode(a)
		second, _ := real.Encode(a)
		want := bytes.Clone(first)
		for i := range first {
			first[i] ^= 0xff
		}
		first = append(first, 0xff)
		clear(first[:cap(first)])
		third, _ := real.Encode(a)
		if !bytes.Equal(second, want) || !bytes.Equal(third, want) || a.Text() != meaning(b).RatString() {
			t.Fatalf("% x: % x, % x, want % x", b, second, third, want)
		}
	}
}

// The rule on values: no call changes a number, and each answers the same again.
func TestNumbersStay(t *testing.T) {
	for _, b := range few() {
		a, _ := real.Decode(b)
		again, _ := real.Decode(b)
		text := a.Text()
		x, e := real.Encode(a)
		y, f := real.Encode(a)
		if a.Text() != text || again.Text() != text || e != f || !bytes.Equal(x, y) {
			t.Fatalf("% x: %s, %s, %s", b, text, a.Text(), again.Text())
		}
	}
}

// P1: every call ends, and none panics, at all arguments.
func TestAllCallsEnd(t *testing.T) {
	defer func() {
		if x := recover(); x != nil {
			t.Fatal("panic:", x)
		}
	}()
	lists := [][]byte{nil, {}, {0}, {0xff}, make([]byte, 7), make([]byte, 8), make([]byte, 9), make([]byte, 1<<24), bytes.Repeat([]byte{0xff}, 8), bytes.Repeat([]byte{0xff}, 1<<20), bytes.Repeat([]byte{0x80}, 8)}
	for _, a := range lists {
		real.Decode(a)
		for _, b := range lists {
			real.Same(a, b)
		}
	}
	far := integer(new(big.Int).Exp(big.NewInt(3), big.NewInt(30000), nil))
	ints := []zed.Int{{}, zed.Of(1), zed.Of(-1), zed.Of(10), zed.Of(math.MinInt), zed.Of(math.MaxInt), far, far.Neg(), integer(power(70000).Num()), integer(power(70000).Num()).Add(zed.Of(1))}
	for _, n := range ints {
		for _, d := range ints {
			a, _ := frac.Make(n, d)
			if b, e := real.Encode(a); (e == api.OK) != (len(b) == 8) {
				t.Fatal(b, e)
			}
		}
	}
}
