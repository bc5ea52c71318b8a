package frac

import "pellicle/zed"

// Floor: the greatest whole number that isn't above it.
func (a Rat) Floor() zed.Int {
	floor, _ := a.split()
	return floor
}

// Near: the nearest whole number.
func (a Rat) Near() zed.Int {
	floor, rest := a.split()
	above := floor.Add(zed.Of(1))
	switch rest.Add(rest).Cmp(a.under()) {
	case -1:
		return floor
	case 1:
		return above
	}
	if even(floor) {
		return floor
	}
	return above
}

// split gives the greatest whole number that isn't above it, and how many denominators' parts are left above that one.
func (a Rat) split() (floor, rest zed.Int) {
	floor, rest, _ = a.num.Floor(a.under())
	return floor, rest
}

// even: does 2 divide it?
func even(n zed.Int) bool {
	_, rest, _ := n.Floor(zed.Of(2))
	return rest.Sign() == 0
}
