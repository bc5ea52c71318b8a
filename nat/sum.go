package nat

import (
	"math/bits"
	"slices"

	"pellicle/api"
)

// Add: the sum.
func (a Nat) Add(b Nat) Nat {
	long, short := a.limbs, b.limbs
	if len(long) < len(short) {
		long, short = short, long
	}
	sum := make([]uint64, len(long)+1)
	copy(sum, long)
	addTo(sum, short)
	return own(sum)
}

// Sub: the difference.
func (a Nat) Sub(b Nat) (Nat, api.Errno) {
	if compare(a.limbs, b.limbs) < 0 {
		return Nat{}, api.ErrRange
	}
	left := slices.Clone(a.limbs)
	takeFrom(left, b.limbs)
	return own(left), api.OK
}

// Up: times 2^k.
func (a Nat) Up(k int) (Nat, api.Errno) {
	if k < 0 || k > api.MaxShift {
		return Nat{}, api.ErrArg
	}
	return own(raised(a.limbs, k)), api.OK
}

// Down: divided by 2^k.
func (a Nat) Down(k int) (Nat, api.Errno) {
	if k < 0 || k > api.MaxShift {
		return Nat{}, api.ErrArg
	}
	return own(lower(slices.Clone(a.limbs), k)), api.OK
}

// compare holds limbs without noughts on top against each other.
func compare(a, b []uint64) int {
	if len(a) != len(b) {
		if len(a) < len(b) {
			return -1
		}
		return 1
	}
	for i := len(a) - 1; i >= 0; i-- {
		if a[i] != b[i] {
			if a[i] < b[i] {
				return -1
			}
			return 1
		}
	}
	return 0
}

// addTo adds b to limbs of which there are at least as many, and answers what is carried out of them.
func addTo(limbs, b []uint64) uint64 {
	carry := uint64(0)
	for i, limb := range b {
		limbs[i], carry = bits.Add64(limbs[i], limb, carry)
	}
	for i := len(b); i < len(limbs) && carry > 0; i++ {
		limbs[i], carry = bits.Add64(limbs[i], 0, carry)
	}
	return carry
}

// takeFrom takes b from limbs of a number that isn't less.
func takeFrom(limbs, b []uint64) {
	borrow := uint64(0)
	for i, limb := range b {
		limbs[i], borrow = bits.Sub64(limbs[i], limb, borrow)
	}
	for i := len(b); borrow > 0; i++ {
		limbs[i], borrow = bits.Sub64(limbs[i], 0, borrow)
	}
}

// raised gives new limbs, k bits higher, with one more on top, perhaps 0.
func raised(limbs []uint64, k int) []uint64 {
	whole, part := k/wordBits, k%wordBits
	high := make([]uint64, len(limbs)+whole+1)
	for i, limb := range limbs {
		high[i+whole] |= limb << part
		high[i+whole+1] = limb >> (wordBits - part)
	}
	return high
}

// lower moves limbs k bits down, in their place; the bits below are dropped.
func lower(limbs []uint64, k int) []uint64 {
	whole, part := k/wordBits, k%wordBits
	if whole >= len(limbs) {
		return nil
	}
	n := len(limbs) - whole
	for i := range n {
		above := uint64(0)
		if i+1 < n {
			above = limbs[i+1+whole]
		}
		limbs[i] = limbs[i+whole]>>part | above<<(wordBits-part)
	}
	return limbs[:n]
}
