package nat

import (
	"math/bits"
	"slices"
)

// Root: the root, and the rest.
func (a Nat) Root() (Nat, Nat) {
	if len(a.limbs) == 0 {
		return Nat{}, Nat{}
	}
	root := rootOf(a)
	rest := slices.Clone(a.limbs)
	takeFrom(rest, root.Mul(root).limbs)
	return root, own(rest)
}

// Gcd: the greatest number that divides both.
func (a Nat) Gcd(b Nat) Nat {
	x, y := slices.Clone(a.limbs), slices.Clone(b.limbs)
	for len(y) > 0 && len(x) != len(y) { // halving is slow where one is much longer
		_, rest := divide(x, y)
		x, y = y, cut(rest)
	}
	if len(y) == 0 {
		return own(x)
	}
	k, m := twos(x), twos(y)
	odd := oddGcd(cut(lower(x, k)), cut(lower(y, m)))
	return own(raised(odd, min(k, m)))
}

// rootOf gives the root of a number that isn't 0, by Newton's steps down from a number that isn't below it: they stop falling just there.
func rootOf(a Nat) Nat {
	root := notBelowRoot(a)
	for {
		quotient, _ := divide(a.limbs, root.limbs)
		sum := root.Add(own(quotient))
		next := own(lower(sum.limbs, 1))
		if next.Cmp(root) >= 0 {
			return root
		}
		root = next
	}
}

// notBelowRoot begins with the root of the number's upper half, so that Newton's steps from there are few.
func notBelowRoot(a Nat) Nat {
	n := a.Bits()
	if n <= wordBits {
		return Of(1 << ((n + 1) / 2))
	}
	k := n / 4
	upper := rootOf(own(lower(slices.Clone(a.limbs), 2*k)))
	return own(raised(upper.Add(Of(1)).limbs, k))
}

// twos: how often 2 divides limbs that aren't 0.
func twos(limbs []uint64) int {
	i := 0
	for limbs[i] == 0 {
		i++
	}
	return i*wordBits + bits.TrailingZeros64(limbs[i])
}

// oddGcd gives the greatest number that divides two odd ones, whose limbs it uses up. Of odd numbers the difference is even, and its halves have the same divisors in common with the lesser one.
func oddGcd(x, y []uint64) []uint64 {
	for len(x) > 1 || len(y) > 1 {
		switch compare(x, y) {
		case 0:
			return x
		case -1:
			x, y = y, x
		}
		takeFrom(x, y)
		x = cut(x)
		x = cut(lower(x, twos(x)))
	}
	return []uint64{oddWordGcd(x[0], y[0])}
}

// oddWordGcd is oddGcd of words.
func oddWordGcd(x, y uint64) uint64 {
	for x != y {
		if x < y {
			x, y = y, x
		}
		x -= y
		x >>= bits.TrailingZeros64(x)
	}
	return x
}
