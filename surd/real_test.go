package surd_test

import (
	"math/big"
	"testing"

	"pellicle/surd"
)

// tells holds Sign, Floor and Near against the value.
func tells(t *testing.T, a surd.Surd, v value) {
	t.Helper()
	if got, want := a.Sign(), v.sign(); got != want {
		t.Fatalf("Sign of %s: %d, want %d", text(a), got, want)
	}
	if got, want := a.Floor().Text(), v.floor().String(); got != want {
		t.Fatalf("Floor of %s: %s, want %s", text(a), short(got), short(want))
	}
	if got, want := a.Near().Text(), v.near().String(); got != want {
		t.Fatalf("Near of %s: %s, want %s", text(a), short(got), short(want))
	}
}

// tellsBoth asks for the number and the one on the other side of 0.
func tellsBoth(t *testing.T, f field, p four) {
	t.Helper()
	tells(t, number(f.m, f.n, p), exactly(f.m, f.n, p))
	q := p.times(ratio(-1, 1))
	tells(t, number(f.m, f.n, q), exactly(f.m, f.n, q))
}

// tellsAround asks around 0, around whole numbers, and around what is just between two.
func tellsAround(t *testing.T, f field, p four) {
	t.Helper()
	for _, by := range []*big.Rat{ratio(0, 1), ratio(1, 1), ratio(-6, 1), ratio(1, 2), ratio(3, 2), ratio(-7, 2), ratio(1, 3), whole(power(10, 30))} {
		tellsBoth(t, f, p.plus(by))
	}
}

// P4.3: Sign, Floor and Near are those of the real number, in fields of all kinds.
func TestReals(t *testing.T) {
	samples(func(f field, p four) {
		tells(t, number(f.m, f.n, p), exactly(f.m, f.n, p))
	})
}

// P4.3: numbers without roots are rounded as chapter 3's are, in any field.
func TestRationals(t *testing.T) {
	for _, f := range []field{{0, 0}, {2, 3}, {4, 9}, {7, 7}} {
		for d := int64(1); d <= 6; d++ {
			for n := int64(-30); n <= 30; n++ {
				tells(t, number(f.m, f.n, small().plus(ratio(n, d))), exactly(f.m, f.n, small().plus(ratio(n, d))))
			}
		}
	}
}

// P4.3: numbers are 0, whole, or just between two, though their parts aren't 0: roots of squares, and roots that make up for one another.
func TestHiddenRationals(t *testing.T) {
	for k := int64(1); k <= 5; k++ {
		for _, m := range []int64{0, 1, 2, 3, 7} {
			same, free := field{m, k * k * m}, field{m, k * k}
			for _, times := range []*big.Rat{ratio(1, 1), ratio(-3, 1), ratio(5, 7)} {
				tellsAround(t, same, small(0, k, -1).times(times))
				tellsAround(t, same, small(-k*m, 0, 0, 1).times(times))
				tellsAround(t, same, small(-k*m, -k, 1, 1).times(times))
				tellsAround(t, free, small(0, k, 0, -1).times(times))
				tellsAround(t, free, small(-k, 0, 1).times(times))
				tellsAround(t, free, small(-k, k, 1, -1).times(times))
				tellsAround(t, field{k * k, m}, small(0, 0, k, -1).times(times))
			}
		}
	}
	a := number(2, 3, small(0, 0, 0, 2)) // 2 √6 less √24
	b, _ := a.Mul(a)
	tells(t, b, exactly(2, 3, small(24)))
	far := power(10, 2000)
	tells(t, wide(new(big.Int).Mul(far, far), far, small(0, 1).plus(new(big.Rat).Neg(whole(far)))), value{})
	tells(t, wide(far, far, small(0, 0, 0, 1).plus(new(big.Rat).Neg(whole(far)))), value{})
	tells(t, wide(far, far, small(0, 1, -1)), value{})
}

// P4.3: numbers with one root that lie ever nearer to 0, on either side, wherever that root stands.
func TestNearOneRoot(t *testing.T) {
	for _, m := range []int64{2, 3, 7, 13, 94} {
		root := int64(new(big.Int).Sqrt(big.NewInt(m)).Int64())
		p, q, before, last := big.NewInt(root), big.NewInt(1), big.NewInt(1), big.NewInt(0)
		a, b, digit := int64(0), int64(1), root // of the continued fraction of the root
		for step := range 60 {
			if step%7 == 0 || step < 10 {
				far := new(big.Rat).Neg(whole(p))
				for place, f := range []field{{}, {m, 5}, {5, m}, {m, 1}} {
					if place > 0 {
						parts := small()
						parts[0], parts[place] = far, whole(q)
						tellsAround(t, f, parts)
						tellsAround(t, f, parts.times(ratio(2, 99)))
					}
				}
			}
			a = digit*b - a
			b = (m - a*a) / b
			digit = (root + a) / b
			p, before = new(big.Int).Add(new(big.Int).Mul(p, big.NewInt(digit)), before), p
			q, last = new(big.Int).Add(new(big.Int).Mul(q, big.NewInt(digit)), last), q
		}
	}
}

// P4.3: numbers with both roots that lie ever nearer to 0, a whole number, and what is just between two.
func TestNearTwoRoots(t *testing.T) {
	for _, x := range []struct {
		f field
		p four
	}{
		{field{2, 3}, small(0, -1, 1)},
		{field{3, 2}, small(-1, 0, 1)},
		{field{5, 6}, small(0, -1, 1)},
		{field{7, 3}, small(-2, 1, -1, 0).plus(ratio(1, 1))},
		{field{2, 3}, small(-1, -1, -1, 2)},
		{field{999983, 999979}, small(0, 1, -1)},
		{field{8, 3}, small(-1, 1, -1)},
	} {
		for _, k := range []int{1, 2, 3, 8, 21, 40} {
			tellsAround(t, x.f, x.p.power(k, x.f.m, x.f.n))
			tellsAround(t, x.f, x.p.power(k, x.f.m, x.f.n).times(ratio(-5, 1<<20)))
		}
	}
	p := small(-1, 1).power(30, 2, 3).mul(small(0, -1, 1).power(30, 2, 3), big.NewInt(2), big.NewInt(3)) // all four parts are long
	tellsAround(t, field{2, 3}, p)
	tellsAround(t, field{8, 27}, four{p[0], new(big.Rat).Mul(p[1], ratio(1, 2)), new(big.Rat).Mul(p[2], ratio(1, 3)), new(big.Rat).Mul(p[3], ratio(1, 6))})
}

// P4.3: sums that lie just beside a whole number by a quotient that is tiny.
func TestNearByQuotient(t *testing.T) {
	for _, k := range []int64{1, 20, 400} {
		tiny := new(big.Rat).SetFrac(big.NewInt(1), power(10, k))
		for _, x := range []struct {
			f field
			p four
		}{
			{field{4, 9}, small(1, 1, 1, 1)},
			{field{2, 8}, small(1, 2, -1)},
			{field{3, 3}, small(0, 0, 0, 1)},
			{field{0, 2}, small(5, 4, 0, 3)},
			{field{1, 0}, small(5, 4, 0, 3)},
		} {
			tellsAround(t, x.f, x.p.plus(tiny))
			tellsAround(t, x.f, x.p.plus(new(big.Rat).Neg(tiny)))
			tellsAround(t, x.f, x.p)
		}
	}
}

// P4.3: fields and parts of many digits. N N + 1 has a root just above N, N N - 1 just below it.
func TestLongFields(t *testing.T) {
	one := big.NewInt(1)
	for _, k := range []int64{1, 30, 600} {
		far := power(10, k)
		square := new(big.Int).Mul(far, far)
		m, n := new(big.Int).Add(square, one), new(big.Int).Sub(square, one)
		for _, x := range []struct {
			p    four
			less *big.Int // is taken away, so that next to nothing is left
		}{
			{small(0, 1), far},
			{small(0, 0, 1), far},
			{small(0, 1, 1), new(big.Int).Mul(far, big.NewInt(2))},
			{small(0, 1, -1), new(big.Int)},
			{small(0, 0, 0, 1), square},
			{small(0, 1, 1, 1), new(big.Int).Add(square, new(big.Int).Mul(far, big.NewInt(2)))},
		} {
			for _, by := range []*big.Rat{ratio(0, 1), ratio(1, 2), ratio(-3, 2), whole(x.less)} {
				p := x.p.plus(new(big.Rat).Sub(by, whole(x.less)))
				for _, q := range []four{p, p.times(ratio(-1, 1)), p.times(ratio(7, 5))} {
					tells(t, wide(m, n, q), roughly(m, n, q))
				}
			}
		}
	}
}

// P4.3 and P4.4: the document's examples, said by their own, and those below 0.
func TestExamples(t *testing.T) {
	for _, x := range []struct {
		f           field
		p           four
		sign        int
		floor, near string
	}{
		{field{2, 3}, small(0, 1, 1).plus(ratio(-22, 7)), 1, "0", "0"},
		{field{2, 3}, small(0, 0, 0, 1), 1, "2", "2"},
		{field{2, 3}, small(0, 0, 0, -1), -1, "-3", "-2"},
		{field{2, 3}, small().plus(ratio(5, 2)), 1, "2", "2"},
		{field{2, 3}, small().plus(ratio(-5, 2)), -1, "-3", "-2"},
		{field{9, 9}, small(0, 1).times(ratio(5, 6)), 1, "2", "2"},
		{field{9, 9}, small(0, 1).times(ratio(7, 6)), 1, "3", "4"},
		{field{9, 9}, small(0, 0, 1).times(ratio(-5, 6)), -1, "-3", "-2"},
		{field{9, 9}, small(0, 0, 0, 1).times(ratio(-7, 18)), -1, "-4", "-4"},
		{field{9, 9}, small(0, 1).times(ratio(-1, 6)), -1, "-1", "0"},
		{field{4, 0}, small(2, -1), 0, "0", "0"},
		{field{4, 0}, small(1).plus(ratio(0, 1)).minus(small(0, 1).times(ratio(1, 2))), 0, "0", "0"},
		{field{2, 0}, small(0, 1), 1, "1", "1"},
		{field{2, 0}, small(0, -1), -1, "-2", "-1"},
		{field{2, 3}, small(0, -1, -1), -1, "-4", "-3"},
		{field{3, 0}, small(0, -1, 9, 9), -1, "-2", "-2"},
	} {
		a := number(x.f.m, x.f.n, x.p)
		if a.Sign() != x.sign || a.Floor().Text() != x.floor || a.Near().Text() != x.near {
			t.Fatal(text(a), a.Sign(), a.Floor().Text(), a.Near().Text())
		}
	}
}
