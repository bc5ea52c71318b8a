package surd_test

import (
	"math/big"
	"testing"

	"pellicle/api"
	"pellicle/frac"
	"pellicle/surd"
	"pellicle/zed"
)

// four are the parts of a number by math/big.
type four [4]*big.Rat

// ratio is n/d by math/big.
func ratio(n, d int64) *big.Rat { return big.NewRat(n, d) }

// whole is n by math/big.
func whole(n *big.Int) *big.Rat { return new(big.Rat).SetInt(n) }

// small are whole parts; those that are missing are 0.
func small(l ...int64) four {
	p := four{new(big.Rat), new(big.Rat), new(big.Rat), new(big.Rat)}
	for i, n := range l {
		p[i] = ratio(n, 1)
	}
	return p
}

// plus adds to the first part.
func (p four) plus(b *big.Rat) four {
	p[0] = new(big.Rat).Add(p[0], b)
	return p
}

// times is all parts times b.
func (p four) times(b *big.Rat) four {
	for i, x := range p {
		p[i] = new(big.Rat).Mul(x, b)
	}
	return p
}

// mul is the product as chapter 4 writes it, of the field m, n.
func (p four) mul(q four, m, n *big.Int) four {
	of := func(terms ...*big.Rat) *big.Rat {
		sum := new(big.Rat)
		for i := 0; i < len(terms); i += 3 {
			term := new(big.Rat).Mul(terms[i], terms[i+1])
			sum.Add(sum, term.Mul(term, terms[i+2]))
		}
		return sum
	}
	one, x, y := ratio(1, 1), whole(m), whole(n)
	both := new(big.Rat).Mul(x, y)
	return four{
		of(p[0], q[0], one, p[1], q[1], x, p[2], q[2], y, p[3], q[3], both),
		of(p[0], q[1], one, p[1], q[0], one, p[2], q[3], y, p[3], q[2], y),
		of(p[0], q[2], one, p[2], q[0], one, p[1], q[3], x, p[3], q[1], x),
		of(p[0], q[3], one, p[3], q[0], one, p[1], q[2], one, p[2], q[1], one),
	}
}

// power is p to the k, of the field m, n.
func (p four) power(k int, m, n int64) four {
	out := small(1)
	for range k {
		out = out.mul(p, big.NewInt(m), big.NewInt(n))
	}
	return out
}

// integer makes b by its text, or of shorter ones.
func integer(b *big.Int) zed.Int {
	if b.BitLen() < 10000 {
		a, _ := zed.Parse(b.String())
		return a
	}
	above, below := new(big.Int).QuoRem(b, power(10, 3000), new(big.Int))
	return integer(above).Mul(integer(power(10, 3000))).Add(integer(below))
}

// power is base^n.
func power(base, n int64) *big.Int {
	return new(big.Int).Exp(big.NewInt(base), big.NewInt(n), nil)
}

// rational makes b by Make.
func rational(b *big.Rat) frac.Rat {
	a, _ := frac.Make(integer(b.Num()), integer(b.Denom()))
	return a
}

// rationals makes the parts.
func rationals(p four) []frac.Rat {
	var out []frac.Rat
	for _, b := range p {
		out = append(out, rational(b))
	}
	return out
}

// wide makes a number of a field of any length.
func wide(m, n *big.Int, p four) surd.Surd {
	a, e := surd.Of(integer(m), integer(n), rationals(p)...)
	if e != api.OK {
		panic(e)
	}
	return a
}

// number makes a number.
func number(m, n int64, p four) surd.Surd {
	return wide(big.NewInt(m), big.NewInt(n), p)
}

// is holds a number's field and parts against those that it should have.
func is(t *testing.T, what string, got surd.Surd, m, n *big.Int, p four) {
	t.Helper()
	x, y := got.Field()
	if x.Text() != m.String() || y.Text() != n.String() {
		t.Fatalf("%s: field %s, %s, want %s, %s", what, short(x.Text()), short(y.Text()), short(m.String()), short(n.String()))
	}
	for i, part := range got.Parts() {
		if part.Text() != p[i].RatString() {
			t.Fatalf("%s: part %d is %s, want %s", what, i, short(part.Text()), short(p[i].RatString()))
		}
	}
}

// fails asks for an error, and for the zero value beside it.
func fails(t *testing.T, what string, got surd.Surd, e, want api.Errno) {
	t.Helper()
	if e != want {
		t.Fatalf("%s: error %d, want %d", what, e, want)
	}
	is(t, what, got, new(big.Int), new(big.Int), small())
}

// goes asks for no error.
func goes(t *testing.T, what string, e api.Errno) {
	t.Helper()
	if e != api.OK {
		t.Fatalf("%s: error %d", what, e)
	}
}

// text tells a number.
func text(a surd.Surd) string {
	m, n := a.Field()
	out := "(" + m.Text() + ", " + n.Text() + ":"
	for _, part := range a.Parts() {
		out += " " + part.Text()
	}
	return short(out) + ")"
}

func short(s string) string {
	if len(s) > 200 {
		return s[:200] + ".."
	}
	return s
}

// chain gives numbers that look like chance, the same ones each time.
type chain uint64

func (c *chain) next() uint64 {
	*c ^= *c << 13
	*c ^= *c >> 7
	*c ^= *c << 17
	return uint64(*c)
}

// ratio of a numerator from -n to n and a denominator from 1 to d.
func (c *chain) ratio(n, d uint64) *big.Rat {
	return ratio(int64(c.next()%(2*n+1))-int64(n), 1+int64(c.next()%d))
}

// parts of ratios.
func (c *chain) parts(n, d uint64) four {
	return four{c.ratio(n, d), c.ratio(n, d), c.ratio(n, d), c.ratio(n, d)}
}

// field is a pair of radicands.
type field struct{ m, n int64 }

// fields are those in which a radicand is 0, 1 or a square, both are the same, or have the same square beside a factor, and all others of small numbers.
func fields() []field {
	var l []field
	few := []int64{0, 1, 2, 3, 4, 5, 6, 8, 9, 12, 18}
	for _, m := range few {
		for _, n := range few {
			l = append(l, field{m, n})
		}
	}
	return append(l, field{50, 98}, field{7, 11}, field{200, 2}, field{999983, 999979}, field{1 << 20, 1 << 21}, field{1000001, 999999})
}

// samples are some numbers of each field, those of few parts among them.
func samples(do func(f field, p four)) {
	c := chain(88172645463325252)
	for _, f := range fields() {
		for n := range 81 { // all parts of -1, 0, 1
			code := int64(n)
			do(f, small(code%3-1, code/3%3-1, code/9%3-1, code/27-1))
		}
		for range 20 {
			do(f, c.parts(9, 6))
			do(f, c.parts(1<<40, 1<<20))
		}
	}
}

// few are numbers of one field, for laws of several of them.
func few(f field) []surd.Surd {
	c := chain(362436069)
	l := []surd.Surd{number(f.m, f.n, small()), number(f.m, f.n, small(1)), number(f.m, f.n, small(0, 1)), number(f.m, f.n, small(0, 0, -1)), number(f.m, f.n, small(0, 0, 0, 1))}
	l = append(l, number(f.m, f.n, four{ratio(-1, 2), ratio(2, 3), ratio(0, 1), ratio(-5, 6)}))
	for range 3 {
		l = append(l, number(f.m, f.n, c.parts(5, 3)))
	}
	return l
}
