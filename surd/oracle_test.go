package surd_test

import "math/big"

// term is a ratio times a root.
type term struct {
	times *big.Rat
	under *big.Int
}

// value is a sum of terms. Those of exactly are none 0, and have radicands no two of which are the same, and that no square above 1 divides: so the sum is 0 just if it is empty, and rational just if no radicand is above 1.
type value []term

// exactly is the number of that field and those parts.
func exactly(m, n int64, p four) value {
	sums := map[int64]*big.Rat{}
	add := func(under, by int64, part *big.Rat) {
		if sums[under] == nil {
			sums[under] = new(big.Rat)
		}
		sums[under].Add(sums[under], new(big.Rat).Mul(part, ratio(by, 1)))
	}
	s, f := withoutSquares(m)
	u, g := withoutSquares(n)
	both := new(big.Int).GCD(nil, nil, big.NewInt(f), big.NewInt(g)).Int64()
	add(1, 1, p[0])
	add(f, s, p[1])
	add(g, u, p[2])
	add(f/both*(g/both), s*u*both, p[3])
	var out value
	for under, times := range sums {
		if times.Sign() != 0 {
			out = append(out, term{times, big.NewInt(under)})
		}
	}
	return out
}

// withoutSquares gives s and f with s s f = n, where no square above 1 divides f; of 0: 0 and 1.
func withoutSquares(n int64) (s, f int64) {
	if n == 0 {
		return 0, 1
	}
	s, f = 1, n
	for k := int64(2); k*k <= f; k++ {
		for f%(k*k) == 0 {
			s, f = s*k, f/(k*k)
		}
	}
	return s, f
}

// roughly is the number of a field of any length, as it is written: for those that are known to be neither 0 nor rational.
func roughly(m, n *big.Int, p four) value {
	return value{{p[0], big.NewInt(1)}, {p[1], m}, {p[2], n}, {p[3], new(big.Int).Mul(m, n)}}
}

// between gives bounds of the sum, by roots that are known to k bits behind the point.
func (v value) between(k uint) (low, high *big.Rat) {
	low, high = new(big.Rat), new(big.Rat)
	unit := new(big.Int).Lsh(big.NewInt(1), k)
	for _, x := range v {
		square := new(big.Int).Lsh(x.under, 2*k)
		least := new(big.Int).Sqrt(square)
		most := least
		if new(big.Int).Mul(least, least).Cmp(square) != 0 {
			most = new(big.Int).Add(least, big.NewInt(1))
		}
		if x.times.Sign() < 0 {
			least, most = most, least
		}
		low.Add(low, new(big.Rat).Mul(x.times, new(big.Rat).SetFrac(least, unit)))
		high.Add(high, new(big.Rat).Mul(x.times, new(big.Rat).SetFrac(most, unit)))
	}
	return low, high
}

// sign looks ever closer till it is sure.
func (v value) sign() int {
	if len(v) == 0 {
		return 0
	}
	for k := uint(64); ; k *= 2 {
		if low, high := v.between(k); low.Sign() == high.Sign() && low.Sign() != 0 {
			return low.Sign()
		}
	}
}

// floor looks ever closer till it is sure.
func (v value) floor() *big.Int {
	for k := uint(64); ; k *= 2 {
		low, high := v.between(k)
		if a, b := floorOf(low), floorOf(high); a.Cmp(b) == 0 {
			return a
		}
	}
}

// near is the nearest whole number, of two the even one.
func (v value) near() *big.Int {
	raised := append(value{{ratio(1, 2), big.NewInt(1)}}, v...)
	near := raised.floor()
	if low, high := raised.between(64); low.Cmp(high) == 0 && low.IsInt() && near.Bit(0) == 1 {
		near.Sub(near, big.NewInt(1))
	}
	return near
}

func floorOf(b *big.Rat) *big.Int {
	return new(big.Int).Div(b.Num(), b.Denom()) // rounds down, as the denominator is above 0
}
