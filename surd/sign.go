package surd

import (
	"pellicle/frac"
	"pellicle/zed"
)

// pair is u + v √m, of a field's m.
type pair struct {
	u, v zed.Int
}

// Sign: -1, 0, 1.
func (a Surd) Sign() int {
	parts, _ := a.whole()
	first, second := pair{parts[0], parts[1]}, pair{parts[2], parts[3]} // the number is first + second √n
	return signOfSum(first.sign(a.m), second.sign(a.m)*a.n.Sign(), func() int {
		return first.square(a.m).less(second.square(a.m), a.n).sign(a.m)
	})
}

// whole gives whole numbers that are the parts times one above 0, and that one.
func (a Surd) whole() (parts [4]zed.Int, scale zed.Int) {
	common := frac.Whole(zed.Of(1))
	for _, part := range a.parts {
		common = common.Mul(frac.Whole(part.Mul(common).Den()))
	}
	for i, part := range a.parts {
		parts[i] = part.Mul(common).Num()
	}
	return parts, common.Num()
}

// signOfSum tells the sign of x + y by those of x and y, and, where they are opposite, by that of x² - y².
func signOfSum(x, y int, squares func() int) int {
	switch {
	case x == 0:
		return y
	case y == 0 || x == y:
		return x
	}
	return x * squares()
}

// sign: -1, 0, 1.
func (p pair) sign(m zed.Int) int {
	return signOfSum(p.u.Sign(), p.v.Sign()*m.Sign(), func() int {
		return p.u.Mul(p.u).Cmp(p.v.Mul(p.v).Mul(m))
	})
}

// square is p times p.
func (p pair) square(m zed.Int) pair {
	both := p.u.Mul(p.v)
	return pair{p.u.Mul(p.u).Add(p.v.Mul(p.v).Mul(m)), both.Add(both)}
}

// less is p - q n.
func (p pair) less(q pair, n zed.Int) pair {
	return pair{p.u.Sub(q.u.Mul(n)), p.v.Sub(q.v.Mul(n))}
}
