package nat

import (
	"math/bits"
	"slices"

	"pellicle/api"
)

// Mul: the product.
func (a Nat) Mul(b Nat) Nat {
	product := make([]uint64, len(a.limbs)+len(b.limbs))
	for i, limb := range a.limbs {
		addScaled(product[i:i+len(b.limbs)+1], b.limbs, limb)
	}
	return own(product)
}

// Div: the quotient, and the rest.
func (a Nat) Div(b Nat) (Nat, Nat, api.Errno) {
	if len(b.limbs) == 0 {
		return Nat{}, Nat{}, api.ErrZero
	}
	quotient, rest := divide(a.limbs, b.limbs)
	return own(quotient), own(rest), api.OK
}

// scaled gives limbs times by, and add.
func scaled(limbs []uint64, by, add uint64) []uint64 {
	for i, limb := range limbs {
		high, low := bits.Mul64(limb, by)
		var carry uint64
		limbs[i], carry = bits.Add64(low, add, 0)
		add = high + carry
	}
	if add > 0 {
		limbs = append(limbs, add)
	}
	return limbs
}

// addScaled adds b times by to the window, which has one limb more than b and room for the sum.
func addScaled(window, b []uint64, by uint64) {
	add := uint64(0)
	for i, limb := range b {
		high, low := bits.Mul64(limb, by)
		var carry uint64
		low, carry = bits.Add64(low, add, 0)
		add = high + carry
		window[i], carry = bits.Add64(window[i], low, 0)
		add += carry
	}
	window[len(b)] = add
}

// takeScaled takes b times by from the window, which has one limb more than b, and answers what is borrowed from above it.
func takeScaled(window, b []uint64, by uint64) uint64 {
	add, borrow := uint64(0), uint64(0)
	for i, limb := range b {
		high, low := bits.Mul64(limb, by)
		var carry uint64
		low, carry = bits.Add64(low, add, 0)
		add = high + carry
		window[i], borrow = bits.Sub64(window[i], low, borrow)
	}
	window[len(b)], borrow = bits.Sub64(window[len(b)], add, borrow)
	return borrow
}

// divide gives the quotient and the rest of limbs without noughts on top, by one that isn't 0.
func divide(a, b []uint64) (quotient, rest []uint64) {
	if len(a) < len(b) {
		return nil, slices.Clone(a)
	}
	if len(b) == 1 {
		quotient = slices.Clone(a)
		return quotient, []uint64{divideWord(quotient, b[0])}
	}
	return divideLong(a, b)
}

// divideWord divides limbs by a word, in their place, and answers the rest.
func divideWord(limbs []uint64, by uint64) uint64 {
	rest := uint64(0)
	for i := len(limbs) - 1; i >= 0; i-- {
		limbs[i], rest = bits.Div64(rest, limbs[i], by)
	}
	return rest
}

// divideLong divides by two limbs or more, a limb of the quotient at a time. Both numbers are raised till the divisor's highest bit is set: then a limb is guessed well by the highest ones.
func divideLong(a, b []uint64) (quotient, rest []uint64) {
	shift := bits.LeadingZeros64(b[len(b)-1])
	by := raised(b, shift)[:len(b)]
	rest = raised(a, shift)
	quotient = make([]uint64, len(a)-len(b)+1)
	for i := len(quotient) - 1; i >= 0; i-- {
		window := rest[i : i+len(by)+1]
		q := guess(window, by)
		short := takeScaled(window, by, q)
		for short > 0 { // the guess was too great
			q--
			short -= addTo(window, by)
		}
		quotient[i] = q
	}
	return quotient, lower(rest, shift)
}

// guess tells the window divided by a divisor whose highest bit is set, or 1 more.
func guess(window, by []uint64) uint64 {
	n := len(by)
	top, next, third := window[n], window[n-1], window[n-2]
	if top >= by[n-1] { // the quotient of the two highest limbs has no room in a word
		return 1<<wordBits - 1
	}
	q, left := bits.Div64(top, next, by[n-1])
	high, low := bits.Mul64(q, by[n-2])
	for high > left || high == left && low > third {
		q--
		left += by[n-1]
		if left < by[n-1] { // left is past a word now, so above high
			break
		}
		high, low = bits.Mul64(q, by[n-2])
	}
	return q
}
