package surd

import (
	"pellicle/frac"
	"pellicle/zed"
)

// Floor: the greatest whole number that isn't above it.
func (a Surd) Floor() zed.Int {
	if a.rational() {
		return a.parts[0].Floor()
	}
	floor, last := a.around()
	for floor.Cmp(last) < 0 {
		next := floor.Add(zed.Of(1))
		if a.plus(frac.Whole(next.Neg())).Sign() < 0 {
			break
		}
		floor = next
	}
	return floor
}

// Near: the nearest whole number.
func (a Surd) Near() zed.Int {
	if a.rational() {
		return a.parts[0].Near()
	}
	half, _ := frac.Of(1, 2)
	raised := a.plus(half)
	near := frac.Whole(raised.Floor())
	if raised.plus(near.Neg()).Sign() == 0 { // just between two
		return near.Sub(half).Near()
	}
	return near.Num()
}

// rational: are there no parts beside roots? Most numbers have none, and are told at once so.
func (a Surd) rational() bool {
	return a.parts[1].Sign() == 0 && a.parts[2].Sign() == 0 && a.parts[3].Sign() == 0
}

// plus is a + b, for use within: it shares memory with a.
func (a Surd) plus(b frac.Rat) Surd {
	a.parts[0] = a.parts[0].Add(b)
	return a
}

// around gives the first and the last whole number that Floor may be: at most 2 apart, as each of three roots is known by the whole number below it.
func (a Surd) around() (first, last zed.Int) {
	parts, scale := a.whole()
	low, open := zed.Int{}, 0 // the number times scale is low, or between low and low + open
	for i, square := range a.squares() {
		part, exact := below(parts[i], square)
		low = low.Add(part)
		if !exact {
			open++
		}
	}
	high := low
	if open > 1 {
		high = low.Add(zed.Of(open - 1))
	}
	first, _, _ = low.Floor(scale)
	last, _, _ = high.Floor(scale)
	return first, last
}

// below gives the greatest whole number that isn't above part √square, and whether it is just that.
func below(part, square zed.Int) (zed.Int, bool) {
	root, rest := part.Mul(part).Mul(square).Abs().Root()
	exact := rest.Bits() == 0
	low := zed.Big(root)
	if part.Sign() >= 0 {
		return low, exact
	}
	if !exact {
		low = low.Add(zed.Of(1))
	}
	return low.Neg(), exact
}
