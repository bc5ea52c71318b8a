package frac

import (
	"pellicle/api"
	"pellicle/zed"
)

// Cmp: less, the same, greater.
func (a Rat) Cmp(b Rat) int {
	if a.whole() && b.whole() {
		return a.num.Cmp(b.num)
	}
	return a.num.Mul(b.under()).Cmp(b.num.Mul(a.under()))
}

// Neg: the other side.
func (a Rat) Neg() Rat { return Rat{a.num.Neg(), fresh(a.den)} }

// Add: the sum.
func (a Rat) Add(b Rat) Rat {
	if a.whole() && b.whole() {
		return Rat{num: a.num.Add(b.num)}
	}
	return sum(a.num, a.under(), b.num, b.under())
}

// Sub: the difference.
func (a Rat) Sub(b Rat) Rat {
	if a.whole() && b.whole() {
		return Rat{num: a.num.Sub(b.num)}
	}
	return sum(a.num, a.under(), b.num.Neg(), b.under())
}

// Mul: the product.
func (a Rat) Mul(b Rat) Rat {
	if a.whole() && b.whole() {
		return Rat{num: a.num.Mul(b.num)}
	}
	return product(a.num, a.under(), b.num, b.under())
}

// Div: the quotient.
func (a Rat) Div(b Rat) (Rat, api.Errno) {
	above, below := b.under(), b.num
	switch b.Sign() {
	case 0:
		return Rat{}, api.ErrZero
	case -1:
		above, below = above.Neg(), below.Neg()
	}
	return product(a.num, a.under(), above, below), api.OK
}

// Least: the least of them.
func Least(l ...Rat) Rat { return outmost(l, -1) }

// Most: the greatest of them.
func Most(l ...Rat) Rat { return outmost(l, 1) }

// sum gives n/d and m/f, both in lowest terms. So it can be shortened only by what the denominators have in common: to look for it there takes shorter numbers than to look in the products.
func sum(n, d, m, f zed.Int) Rat {
	both := common(d, f)
	dShare, fShare := share(d, both), share(f, both)
	above := n.Mul(fShare).Add(m.Mul(dShare))
	again := common(above, both)
	return over(share(above, again), dShare.Mul(share(f, again)))
}

// product gives n/d times m/f, both in lowest terms. So it can be shortened only crosswise, which takes shorter numbers than the products.
func product(n, d, m, f zed.Int) Rat {
	first, second := common(n, f), common(m, d)
	above := share(n, first).Mul(share(m, second))
	below := share(d, second).Mul(share(f, first))
	return over(above, below)
}

// outmost gives the one of them beyond which none goes, down if side is -1, up if it is 1; of none 0.
func outmost(l []Rat, side int) Rat {
	if len(l) == 0 {
		return Rat{}
	}
	best := l[0]
	for _, a := range l[1:] {
		if a.Cmp(best) == side {
			best = a
		}
	}
	return Rat{fresh(best.num), fresh(best.den)}
}
