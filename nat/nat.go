// Package nat is layer 1: whole numbers from 0 on, as great as they come; see shared/doc/01-nat.md.
package nat

import (
	"math/bits"
	"slices"

	"pellicle/api"
)

const (
	wordBits = 64            // bits of a limb
	group    = 9             // digits that are read or told at a time
	groupEnd = 1_000_000_000 // the least number of more digits than a group has
)

// Nat is a whole number from 0 on. Its zero value is 0.
type Nat struct {
	limbs []uint64 // the lowest first; the highest one isn't 0, so each number has one form alone
}

// Of: a number.
func Of(n uint64) Nat { return own([]uint64{n}) }

// Parse: the number of digits.
func Parse(s string) (Nat, api.Errno) {
	if len(s) > api.MaxDigits {
		return Nat{}, api.ErrLong
	}
	if !decimal(s) {
		return Nat{}, api.ErrForm
	}
	var limbs []uint64
	for len(s) > 0 {
		n := min(group, len(s))
		scale, value := uint64(1), uint64(0)
		for i := range n {
			scale *= 10
			value = value*10 + uint64(s[i]-'0')
		}
		limbs = scaled(limbs, scale, value)
		s = s[n:]
	}
	return own(limbs), api.OK
}

// Text: its digits.
func (a Nat) Text() string {
	if len(a.limbs) == 0 {
		return "0"
	}
	left := slices.Clone(a.limbs)
	digits := make([]byte, 0, 20*len(left)+group) // a limb has less than 20 digits
	for len(left) > 0 {
		nine := divideWord(left, groupEnd)
		left = cut(left)
		for range group {
			digits = append(digits, byte('0'+nine%10))
			nine /= 10
		}
	}
	for digits[len(digits)-1] == '0' { // the last group may have fewer digits than nine
		digits = digits[:len(digits)-1]
	}
	slices.Reverse(digits)
	return string(digits)
}

// Word: the number, if it is below 2^64.
func (a Nat) Word() (uint64, bool) {
	switch len(a.limbs) {
	case 0:
		return 0, true
	case 1:
		return a.limbs[0], true
	}
	return 0, false
}

// Bits: how many bits it has.
func (a Nat) Bits() int {
	n := len(a.limbs)
	if n == 0 {
		return 0
	}
	return (n-1)*wordBits + bits.Len64(a.limbs[n-1])
}

// Cmp: less, the same, greater.
func (a Nat) Cmp(b Nat) int { return compare(a.limbs, b.limbs) }

// own makes a number of limbs that nobody else holds.
func own(limbs []uint64) Nat { return Nat{cut(limbs)} }

// cut takes the noughts on top away. The third index shuts off the room behind, into which an append would write otherwise.
func cut(limbs []uint64) []uint64 {
	n := len(limbs)
	for n > 0 && limbs[n-1] == 0 {
		n--
	}
	if n == 0 { // as in the zero value
		return nil
	}
	return limbs[:n:n]
}

// decimal: is it digits, without a 0 ahead of another one?
func decimal(s string) bool {
	for i := range len(s) {
		if s[i] < '0' || s[i] > '9' {
			return false
		}
	}
	return s == "0" || s != "" && s[0] != '0'
}
