package frac

import "pellicle/zed"

// over makes a number of a numerator and a denominator above 0 that are in lowest terms, and that nobody else holds.
func over(n, d zed.Int) Rat {
	if isOne(d) {
		return Rat{num: n}
	}
	return Rat{n, d}
}

// common gives the greatest number that divides both.
func common(a, b zed.Int) zed.Int {
	if isOne(a) || isOne(b) { // as the denominators of whole numbers are
		return zed.Of(1)
	}
	return zed.Big(a.Abs().Gcd(b.Abs()))
}

// share divides a by a number above 0 that divides it. By 1 it answers a itself, so what is told outside is to be copied.
func share(a, by zed.Int) zed.Int {
	if isOne(by) { // most often it is
		return a
	}
	quotient, _, _ := a.Floor(by)
	return quotient
}

// isOne: is it 1?
func isOne(a zed.Int) bool {
	n, _ := a.Small()
	return n == 1
}

// fresh gives the same number in memory of its own, as an answer shares none with what was handed in.
func fresh(a zed.Int) zed.Int { return a.Add(zed.Int{}) }
