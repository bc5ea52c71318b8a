package zed

import (
	"pellicle/api"
	"pellicle/nat"
)

// Cmp: less, the same, greater.
func (a Int) Cmp(b Int) int {
	side, other := a.Sign(), b.Sign()
	switch {
	case side < other:
		return -1
	case side > other:
		return 1
	case side < 0: // the farther one is the lesser one
		return b.Nat.Cmp(a.Nat)
	}
	return a.Nat.Cmp(b.Nat)
}

// Neg: the other side.
func (a Int) Neg() Int { return signed(fresh(a.Nat), !a.below) }

// Add: the sum.
func (a Int) Add(b Int) Int { return together(a, b.Nat, b.below) }

// Sub: the difference.
func (a Int) Sub(b Int) Int { return together(a, b.Nat, !b.below) }

// Mul: the product.
func (a Int) Mul(b Int) Int {
	return signed(a.Nat.Mul(b.Nat), a.below != b.below)
}

// Sum: of all of them.
func Sum(l ...Int) Int {
	var sum Int
	for _, a := range l {
		sum = sum.Add(a)
	}
	return sum
}

// together adds a number that is told by its distance from 0 and its side.
func together(a Int, n nat.Nat, below bool) Int {
	if a.below == below {
		return signed(a.Nat.Add(n), below)
	}
	if left, e := a.Nat.Sub(n); e == api.OK {
		return signed(left, a.below)
	}
	left, _ := n.Sub(a.Nat)
	return signed(left, below)
}
