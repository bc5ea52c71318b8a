package surd_test

import (
	"math/big"
	"testing"

	"pellicle/api"
	"pellicle/surd"
	"pellicle/zed"
)

// reckons holds the sum, the difference, the product and the order of two numbers of one field against math/big.
func reckons(t *testing.T, m, n *big.Int, p, q four, order int) {
	t.Helper()
	a, b := wide(m, n, p), wide(m, n, q)
	var plus, minus, neg four
	for i := range p {
		plus[i], minus[i], neg[i] = new(big.Rat).Add(p[i], q[i]), new(big.Rat).Sub(p[i], q[i]), new(big.Rat).Neg(p[i])
	}
	sum, e := a.Add(b)
	goes(t, "Add", e)
	is(t, "Add", sum, m, n, plus)
	difference, e := a.Sub(b)
	goes(t, "Sub", e)
	is(t, "Sub", difference, m, n, minus)
	product, e := a.Mul(b)
	goes(t, "Mul", e)
	is(t, "Mul", product, m, n, p.mul(q, m, n))
	is(t, "Neg", a.Neg(), m, n, neg)
	got, e := a.Cmp(b)
	goes(t, "Cmp", e)
	if got != order {
		t.Fatalf("Cmp of %s and %s: %d, want %d", text(a), text(b), got, order)
	}
}

// P4.2: Add, Sub, Mul and Neg have the parts that the chapter writes, and are of the same field; Cmp is the order of the real numbers.
func TestArithmetic(t *testing.T) {
	c := chain(521288629)
	for _, f := range fields() {
		for _, size := range []uint64{1, 3, 1 << 30} {
			for range 8 {
				p, q := c.parts(size, 4), c.parts(size, 4)
				order := exactly(f.m, f.n, p.minus(q)).sign()
				reckons(t, big.NewInt(f.m), big.NewInt(f.n), p, q, order)
			}
			p := c.parts(size, 4)
			reckons(t, big.NewInt(f.m), big.NewInt(f.n), p, p, 0)
			reckons(t, big.NewInt(f.m), big.NewInt(f.n), p, small(), exactly(f.m, f.n, p).sign())
		}
	}
	m, n := power(10, 300), power(7, 501)
	p, q := c.parts(1<<40, 1<<40).times(whole(power(3, 200))), c.parts(1<<40, 1<<40)
	p[3] = new(big.Rat).Abs(p[3]) // outweighs the others, and the other one's
	p[3].Add(p[3], whole(power(10, 1000)))
	reckons(t, m, n, p, q, 1)
	reckons(t, m, n, q, p, -1)
}

// minus is p - q.
func (p four) minus(q four) four {
	for i := range p {
		p[i] = new(big.Rat).Sub(p[i], q[i])
	}
	return p
}

// P4.2: each part times each other, alone, comes to the part that the chapter writes.
func TestMulOfEachPart(t *testing.T) {
	m, n := big.NewInt(5), big.NewInt(7)
	want := [4][4][2]int64{ // the place, and the factor
		{{0, 1}, {1, 1}, {2, 1}, {3, 1}},
		{{1, 1}, {0, 5}, {3, 1}, {2, 5}},
		{{2, 1}, {3, 1}, {0, 7}, {1, 7}},
		{{3, 1}, {2, 5}, {1, 7}, {0, 35}},
	}
	for i := range 4 {
		for j := range 4 {
			p, q, r := small(), small(), small()
			p[i], q[j] = ratio(2, 3), ratio(-5, 11)
			at := want[i][j]
			r[at[0]] = ratio(-10*at[1], 33)
			product, e := wide(m, n, p).Mul(wide(m, n, q))
			goes(t, "Mul", e)
			is(t, "Mul", product, m, n, r)
		}
	}
}

// P4.2: numbers whose fields aren't the same pair are ErrField, also where the fields have the same numbers.
func TestUnlikeFields(t *testing.T) {
	l := append(fields(), field{2, 32}, field{3, 27})
	for i, f := range l {
		for j, g := range l {
			if i == j || f == g {
				continue
			}
			for _, p := range []four{small(), small(1), small(1, 2, 3, 4)} {
				unlike(t, number(f.m, f.n, p), number(g.m, g.n, p))
			}
		}
	}
	far := power(2, 20000)
	further := new(big.Int).Add(far, big.NewInt(1))
	unlike(t, wide(far, far, small(1)), wide(far, further, small(1)))
	unlike(t, wide(far, far, small(1)), wide(further, far, small(1)))
	unlike(t, surd.Surd{}, number(2, 3, small()))
}

func unlike(t *testing.T, a, b surd.Surd) {
	t.Helper()
	sum, e := a.Add(b)
	fails(t, "Add", sum, e, api.ErrField)
	difference, e := a.Sub(b)
	fails(t, "Sub", difference, e, api.ErrField)
	product, e := a.Mul(b)
	fails(t, "Mul", product, e, api.ErrField)
	if order, e := a.Cmp(b); order != 0 || e != api.ErrField {
		t.Fatal("Cmp", text(a), text(b), order, e)
	}
}

// P4.2: a field's numbers count as numbers, however they came about.
func TestLikeFields(t *testing.T) {
	far := integer(power(10, 50))
	a, _ := surd.Of(zed.Of(2), zed.Of(3), rationals(small(1, 1))...)
	b, _ := surd.Of(far.Sub(far).Add(zed.Of(2)), far.Add(zed.Of(3)).Sub(far), rationals(small(1, -1))...)
	product, e := a.Mul(b)
	goes(t, "Mul", e)
	is(t, "Mul", product, big.NewInt(2), big.NewInt(3), small(-1))
	m, n := a.Field()
	c, _ := surd.Of(m, n, rationals(small(1, 1))...)
	if order, e := a.Cmp(c); order != 0 || e != api.OK {
		t.Fatal(order, e)
	}
}
