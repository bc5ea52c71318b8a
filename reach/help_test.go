package reach_test

import (
	"math/big"
	"testing"

	"pellicle/api"
	"pellicle/frac"
	"pellicle/plane"
)

const (
	lowest = -1 << 63  // the least int
	top    = 1<<63 - 1 // the greatest one
)

// ratio is n/d by math/big.
func ratio(n, d int64) *big.Rat { return big.NewRat(n, d) }

func sum(a, b *big.Rat) *big.Rat { return new(big.Rat).Add(a, b) }

func less(a, b *big.Rat) *big.Rat { return new(big.Rat).Sub(a, b) }

func times(a, b *big.Rat) *big.Rat { return new(big.Rat).Mul(a, b) }

func over(a, b *big.Rat) *big.Rat { return new(big.Rat).Quo(a, b) }

func negated(a *big.Rat) *big.Rat { return new(big.Rat).Neg(a) }

// power is 10^n.
func power(n int64) *big.Rat {
	return new(big.Rat).SetInt(new(big.Int).Exp(big.NewInt(10), big.NewInt(n), nil))
}

// rational makes b.
func rational(b *big.Rat) frac.Rat {
	a, e := frac.Parse(b.RatString())
	if e != api.OK {
		panic(e)
	}
	return a
}

// spot is a point, or a way between two, by math/big.
type spot struct{ x, y *big.Rat }

// at is a spot on the grid.
func at(x, y int64) spot { return spot{ratio(x, 1), ratio(y, 1)} }

func (p spot) plus(q spot) spot { return spot{sum(p.x, q.x), sum(p.y, q.y)} }

func (p spot) minus(q spot) spot { return spot{less(p.x, q.x), less(p.y, q.y)} }

func (p spot) times(by *big.Rat) spot { return spot{times(p.x, by), times(p.y, by)} }

func (p spot) cross(q spot) *big.Rat { return less(times(p.x, q.y), times(p.y, q.x)) }

func (p spot) dot(q spot) *big.Rat { return sum(times(p.x, q.x), times(p.y, q.y)) }

// none: is it 0 0?
func (p spot) none() bool { return p.x.Sign() == 0 && p.y.Sign() == 0 }

func (p spot) text() string { return p.x.RatString() + " " + p.y.RatString() }

func (p spot) point() plane.Pt { return plane.Pt{X: rational(p.x), Y: rational(p.y)} }

// square is that of two spots, as the chapter's words have it.
func (p spot) square(q spot) *big.Rat {
	x, y := less(q.x, p.x), less(q.y, p.y)
	return sum(times(x, x), times(y, y))
}

// way is a segment by math/big.
type way struct{ a, b spot }

// from is a segment on the grid.
func from(a, b, c, d int64) way { return way{at(a, b), at(c, d)} }

func (w way) seg() plane.Seg { return plane.Seg{A: w.a.point(), B: w.b.point()} }

func (w way) back() way { return way{w.b, w.a} }

func (w way) dir() spot { return w.b.minus(w.a) }

// along is the point at that part of the way.
func (w way) along(part *big.Rat) spot { return w.a.plus(w.dir().times(part)) }

func (w way) text() string { return w.a.text() + " - " + w.b.text() }

func short(s string) string {
	if len(s) > 600 {
		return s[:600] + ".."
	}
	return s
}

// isNumber holds a number against what it should be.
func isNumber(t *testing.T, what string, got frac.Rat, want *big.Rat) {
	t.Helper()
	if got.Text() != want.RatString() || got.Sign() != want.Sign() || got.Cmp(rational(want)) != 0 {
		t.Fatalf("%s: %s, want %s", short(what), short(got.Text()), short(want.RatString()))
	}
}

// view turns points, makes all so many times as great, mirrors and moves it: x' = a x - b y and y' = b x + a y, where y was turned to the other side of 0 first if flip says so, and then move is added.
type view struct {
	a, b *big.Rat
	flip bool
	move spot
	n    int64 // how many times as great all is, if that is whole; else 0
}

func (v view) of(p spot) spot {
	if v.flip {
		p = spot{p.x, negated(p.y)}
	}
	return spot{less(times(v.a, p.x), times(v.b, p.y)), sum(times(v.b, p.x), times(v.a, p.y))}.plus(v.move)
}

func (v view) way(w way) way { return way{v.of(w.a), v.of(w.b)} }

// grown is a square as it is seen: n n times as great.
func (v view) grown(square *big.Rat) *big.Rat {
	return times(square, sum(times(v.a, v.a), times(v.b, v.b)))
}

// views leave all where it is, turn it by quarters and otherwise, mirror it, make it greater and smaller, and take it to broken coordinates and to those of many digits.
func views() []view {
	o, i, m := ratio(0, 1), ratio(1, 1), ratio(-1, 1)
	far := sum(power(60), ratio(1, 7))
	return []view{
		{i, o, false, at(0, 0), 1},
		{o, i, false, at(-3, 8), 1},
		{m, o, false, spot{ratio(1, 2), ratio(-1, 3)}, 1},
		{o, m, false, at(1<<40, 0), 1},
		{i, o, true, at(0, 5), 1},
		{o, i, true, at(0, 0), 1},
		{m, o, true, spot{ratio(1, 9), ratio(1, 6)}, 1},
		{ratio(3, 5), ratio(-4, 5), false, at(0, 0), 1},
		{i, o, false, spot{far, negated(far)}, 1},
		{ratio(7, 1), o, false, at(2, 2), 7},
		{ratio(-3, 1), ratio(4, 1), true, spot{ratio(5, 2), ratio(0, 1)}, 5},
		{ratio(1000003, 1), o, false, spot{ratio(1, 1000), ratio(-7, 11)}, 1000003},
		{ratio(1, 6), o, false, spot{ratio(-1, 4), ratio(2, 9)}, 0},
		{ratio(2, 3), ratio(-1, 2), true, at(1, 1), 0},
		{far, i, false, spot{ratio(1, 3), far}, 0},
		{over(ratio(3, 1), sum(power(55), i)), o, false, at(0, 0), 0},
	}
}

// heavy are numbers on both sides of 0: whole ones, broken ones, long ones, and some that lie close together.
func heavy() []*big.Rat {
	tiny := over(ratio(1, 1), power(70))
	l := []*big.Rat{ratio(0, 1)}
	for _, b := range []*big.Rat{ratio(1, 1), ratio(1, 2), ratio(2, 3), ratio(1<<62, 1), power(80)} {
		l = append(l, b, negated(b))
	}
	return append(l, tiny, sum(ratio(1, 2), tiny), less(ratio(-2, 3), tiny), sum(power(80), tiny), over(sum(power(300), ratio(7, 1)), sum(power(299), ratio(1, 1))))
}

// spots are points of such numbers.
func spots() []spot {
	var l []spot
	for _, x := range heavy() {
		for _, y := range heavy() {
			l = append(l, spot{x, y})
		}
	}
	return l
}

// few is every n-th of them.
func few(l []spot, n int) []spot {
	var out []spot
	for i, p := range l {
		if i%n == 0 {
			out = append(out, p)
		}
	}
	return out
}

// chain gives numbers that look like chance, the same ones each time.
type chain uint64

func (c *chain) next() uint64 {
	*c ^= *c << 13
	*c ^= *c >> 7
	*c ^= *c << 17
	return uint64(*c)
}

// within gives a number from first to last.
func (c *chain) within(first, last int64) int64 {
	return first + int64(c.next()%uint64(last-first+1))
}

// spot gives a point whose coordinates have numerators of -n to n, and denominators of 1 to d.
func (c *chain) spot(n, d int64) spot {
	return spot{ratio(c.within(-n, n), c.within(1, d)), ratio(c.within(-n, n), c.within(1, d))}
}

func (c *chain) way(n, d int64) way { return way{c.spot(n, d), c.spot(n, d)} }

// small are all points of a grid of that many in a row and in a column.
func small(n int64) []spot {
	var l []spot
	for x := range n {
		for y := range n {
			l = append(l, at(x, y))
		}
	}
	return l
}

// waysOf are all segments between these points, those of one point too.
func waysOf(l []spot) []way {
	var out []way
	for _, p := range l {
		for _, q := range l {
			out = append(out, way{p, q})
		}
	}
	return out
}

// fours are pairs of segments: of one point, on one line, touching, crossing, parallel, apart.
func fours() [][2]way {
	c := chain(271828)
	var l [][2]way
	for i := range 80 {
		d := int64(1 + i%3)
		s, u, by := c.way(6, d), c.way(6, d), c.spot(3, 2)
		on := way{s.along(ratio(c.within(-2, 4), 2)), s.along(ratio(c.within(-2, 4), 2))}
		beside := way{on.a.plus(by), on.b.plus(by)}
		l = append(l, [2]way{s, u}, [2]way{s, on}, [2]way{on, s}, [2]way{s, {on.a, u.b}}, [2]way{{u.a, u.a}, s}, [2]way{s, s.back()}, [2]way{s, beside}, [2]way{{s.a, s.a}, {u.a, u.a}})
	}
	far := c.way(1<<60, 1<<40)
	return append(l, [2]way{far, c.way(1<<60, 1<<40)}, [2]way{far, {far.along(ratio(1, 3)), far.along(ratio(4, 3))}})
}
