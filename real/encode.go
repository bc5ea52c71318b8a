package real

import (
	"pellicle/api"
	"pellicle/frac"
	"pellicle/nat"
)

// unitShift: a real is a whole number of units, each the least real above 0, which is 1 divided by 2 as often as this.
const unitShift = digitBits * bias

// Encode: the bytes that mean a number.
func Encode(a frac.Rat) ([]byte, api.Errno) {
	units, whole := inUnits(a)
	if !whole {
		return nil, api.ErrRange
	}
	exponent, m, fits := leastExponent(units)
	if !fits {
		return nil, api.ErrRange
	}
	return laid(a.Sign() < 0, exponent, m), api.OK
}

// inUnits tells how many units a number is away from 0, if they are a whole number.
func inUnits(a frac.Rat) (nat.Nat, bool) {
	den := a.Den().Abs()
	shift := den.Bits() - 1
	if shift > unitShift {
		return nat.Nat{}, false
	}
	if power, _ := nat.Of(1).Up(shift); power.Cmp(den) != 0 {
		return nat.Nat{}, false
	}
	units, _ := a.Num().Abs().Up(unitShift - shift)
	return units, true
}

// leastExponent gives the least exponent at which so many units have room in m, and that m, if it is whole. Where it isn't, no greater exponent has a whole one either, as each drops a digit more.
func leastExponent(units nat.Nat) (exponent int, m uint64, fits bool) {
	if over := units.Bits() - mBits; over > 0 {
		exponent = (over + digitBits - 1) / digitBits
	}
	if exponent > maxExponent {
		return 0, 0, false
	}
	digits, _ := units.Down(digitBits * exponent)
	if again, _ := digits.Up(digitBits * exponent); again.Cmp(units) != 0 {
		return 0, 0, false
	}
	m, fits = digits.Word()
	return exponent, m, fits
}

// laid gives the bytes of a real.
func laid(below bool, exponent int, m uint64) []byte {
	var b [size]byte
	b[0] = byte(exponent)
	if below {
		b[0] |= signBit
	}
	for i := range mBytes {
		b[mBytes-i] = byte(m >> (8 * i))
	}
	return b[:]
}
