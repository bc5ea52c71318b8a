package nat_test

import (
	"math/big"
	"testing"

	"pellicle/nat"
)

// P1.2: Bits is the least k with a < 2^k.
func TestBits(t *testing.T) {
	if n := (nat.Nat{}).Bits(); n != 0 {
		t.Fatal("0 has bits:", n)
	}
	for k := range 600 {
		one := number(power(2, int64(k)))
		if n := one.Bits(); n != k+1 {
			t.Fatalf("2^%d has %d bits", k, n)
		}
		below, _ := one.Sub(nat.Of(1))
		if n := below.Bits(); n != k {
			t.Fatalf("2^%d - 1 has %d bits", k, n)
		}
	}
	for _, k := range []int64{65535, 65536, 70000} {
		if n := number(power(2, k)).Bits(); n != int(k)+1 {
			t.Fatalf("2^%d has %d bits", k, n)
		}
	}
}

// P1.2: Cmp tells less, the same, greater, of all pairs.
func TestCmp(t *testing.T) {
	l := samples()
	l = append(l, ofWords(1, 2, 3), ofWords(1, 3, 2), ofWords(2, 1, 3), ofWords(3, 0, 0), ofWords(1, 2, 4), ofWords(1<<63, 0, 0), ofWords(1<<63, 0, 1))
	numbers := make([]nat.Nat, len(l))
	for i, b := range l {
		numbers[i] = number(b)
	}
	for i, a := range l {
		for j, b := range l {
			if got := numbers[i].Cmp(numbers[j]); got != a.Cmp(b) {
				t.Fatal(a, b, got)
			}
		}
	}
}

// P1.2: a number is the same however it came about.
func TestCmpOfAnswers(t *testing.T) {
	for _, b := range samples() {
		a := number(b)
		more := a.Add(number(power(2, 700)))
		less, e := more.Sub(number(power(2, 700)))
		goes(t, "Sub", e)
		is(t, "Sub", less, b)
		nought, _ := a.Sub(a)
		is(t, "a - a", nought, new(big.Int))
		if nought.Cmp(nat.Nat{}) != 0 || (nat.Nat{}).Cmp(nought) != 0 {
			t.Fatal("a - a isn't 0:", b)
		}
	}
}
