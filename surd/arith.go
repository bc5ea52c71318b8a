package surd

import (
	"pellicle/api"
	"pellicle/frac"
)

// Neg: the other side.
func (a Surd) Neg() Surd {
	other := Surd{field: a.fresh()}
	for i, part := range a.parts {
		other.parts[i] = part.Neg()
	}
	return other
}

// Add: the sum.
func (a Surd) Add(b Surd) (Surd, api.Errno) {
	if !a.same(b.field) {
		return Surd{}, api.ErrField
	}
	sum := Surd{field: a.fresh()}
	for i, part := range a.parts {
		sum.parts[i] = part.Add(b.parts[i])
	}
	return sum, api.OK
}

// Sub: the difference.
func (a Surd) Sub(b Surd) (Surd, api.Errno) { return a.Add(b.Neg()) }

// Mul: the product.
func (a Surd) Mul(b Surd) (Surd, api.Errno) {
	if !a.same(b.field) {
		return Surd{}, api.ErrField
	}
	product := Surd{field: a.fresh()}
	squares := a.squares()
	for i, x := range a.parts {
		for j, y := range b.parts {
			if x.Sign() == 0 || y.Sign() == 0 { // most often one is
				continue
			}
			both := x.Mul(y).Mul(frac.Whole(squares[i&j]))
			product.parts[i^j] = product.parts[i^j].Add(both)
		}
	}
	return product, api.OK
}

// Cmp: less, the same, greater.
func (a Surd) Cmp(b Surd) (int, api.Errno) {
	left, e := a.Sub(b)
	return left.Sign(), e
}
