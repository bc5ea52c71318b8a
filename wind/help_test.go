package wind_test

import (
	"math/big"
	"slices"

	"pellicle/api"
	"pellicle/frac"
	"pellicle/plane"
)

const (
	lowest = -1 << 63  // the least int
	top    = 1<<63 - 1 // the greatest one
)

// ratio is n/d by math/big.
func ratio(n, d int64) *big.Rat { return big.NewRat(n, d) }

func sum(a, b *big.Rat) *big.Rat { return new(big.Rat).Add(a, b) }

func less(a, b *big.Rat) *big.Rat { return new(big.Rat).Sub(a, b) }

func times(a, b *big.Rat) *big.Rat { return new(big.Rat).Mul(a, b) }

func over(a, b *big.Rat) *big.Rat { return new(big.Rat).Quo(a, b) }

func negated(a *big.Rat) *big.Rat { return new(big.Rat).Neg(a) }

// power is 10^n.
func power(n int64) *big.Rat {
	return new(big.Rat).SetInt(new(big.Int).Exp(big.NewInt(10), big.NewInt(n), nil))
}

// tiny is a number just above 0.
func tiny() *big.Rat { return over(ratio(1, 1), power(60)) }

// rational makes b.
func rational(b *big.Rat) frac.Rat {
	a, e := frac.Parse(b.RatString())
	if e != api.OK {
		panic(e)
	}
	return a
}

// spot is a point, or a way between two, by math/big.
type spot struct{ x, y *big.Rat }

// at is a spot on the grid.
func at(x, y int64) spot { return spot{ratio(x, 1), ratio(y, 1)} }

func (p spot) plus(q spot) spot { return spot{sum(p.x, q.x), sum(p.y, q.y)} }

func (p spot) minus(q spot) spot { return spot{less(p.x, q.x), less(p.y, q.y)} }

func (p spot) times(by *big.Rat) spot { return spot{times(p.x, by), times(p.y, by)} }

func (p spot) cross(q spot) *big.Rat { return less(times(p.x, q.y), times(p.y, q.x)) }

func (p spot) dot(q spot) *big.Rat { return sum(times(p.x, q.x), times(p.y, q.y)) }

// quarter is a way, turned by a quarter to the left.
func (p spot) quarter() spot { return spot{negated(p.y), p.x} }

// none: is it 0 0?
func (p spot) none() bool { return p.x.Sign() == 0 && p.y.Sign() == 0 }

func (p spot) text() string { return p.x.RatString() + " " + p.y.RatString() }

func (p spot) point() plane.Pt { return plane.Pt{X: rational(p.x), Y: rational(p.y)} }

// grid is the point of the grid, if it is one that ints can tell.
func (p spot) grid() (api.Pt, bool) {
	if !p.x.IsInt() || !p.y.IsInt() || !p.x.Num().IsInt64() || !p.y.Num().IsInt64() {
		return api.Pt{}, false
	}
	return api.Pt{X: int(p.x.Num().Int64()), Y: int(p.y.Num().Int64())}, true
}

// row makes spots on the grid of their coordinates.
func row(l ...int64) []spot {
	var out []spot
	for i := 0; i+1 < len(l); i += 2 {
		out = append(out, at(l[i], l[i+1]))
	}
	return out
}

func points(l []spot) []plane.Pt {
	var out []plane.Pt
	for _, p := range l {
		out = append(out, p.point())
	}
	return out
}

// onGrid is a row on the grid, if it is one that ints can tell.
func onGrid(l []spot) ([]api.Pt, bool) {
	var out []api.Pt
	for _, p := range l {
		g, ok := p.grid()
		if !ok {
			return nil, false
		}
		out = append(out, g)
	}
	return out, true
}

func text(l []spot) string {
	out := ""
	for i, p := range l {
		if i > 0 {
			out += ", "
		}
		out += p.text()
	}
	return out
}

// again tells a row that often.
func again(l []spot, n int) []spot {
	var out []spot
	for range n {
		out = append(out, l...)
	}
	return out
}

func back(l []spot) []spot {
	out := slices.Clone(l)
	slices.Reverse(out)
	return out
}

// starts is a row, told from its point i on.
func starts(l []spot, i int) []spot { return slices.Concat(l[i:], l[:i]) }

// way is a segment by math/big.
type way struct{ a, b spot }

// from is a segment on the grid.
func from(a, b, c, d int64) way { return way{at(a, b), at(c, d)} }

func (w way) seg() plane.Seg { return plane.Seg{A: w.a.point(), B: w.b.point()} }

func (w way) back() way { return way{w.b, w.a} }

func (w way) dir() spot { return w.b.minus(w.a) }

// along is the point at that part of the way.
func (w way) along(part *big.Rat) spot { return w.a.plus(w.dir().times(part)) }

func (w way) middle() spot { return w.along(ratio(1, 2)) }

// about is a way in that direction with the middle m.
func about(m, dir spot) way { return way{m.minus(dir), m.plus(dir)} }

func (w way) text() string { return w.a.text() + " - " + w.b.text() }

// sidesOf are a row's segments.
func sidesOf(l []spot) []way {
	var out []way
	for i := range l {
		out = append(out, way{l[i], l[(i+1)%len(l)]})
	}
	return out
}

func short(s string) string {
	if len(s) > 600 {
		return s[:600] + ".."
	}
	return s
}

// view turns points, makes all so many times as great, mirrors and moves it: x' = a x - b y and y' = b x + a y, where y was turned to the other side of 0 first if flip says so, and then move is added.
type view struct {
	a, b *big.Rat
	flip bool
	move spot
}

func (v view) of(p spot) spot {
	if v.flip {
		p = spot{p.x, negated(p.y)}
	}
	return spot{less(times(v.a, p.x), times(v.b, p.y)), sum(times(v.b, p.x), times(v.a, p.y))}.plus(v.move)
}

func (v view) row(l []spot) []spot {
	var out []spot
	for _, p := range l {
		out = append(out, v.of(p))
	}
	return out
}

func (v view) way(w way) way { return way{v.of(w.a), v.of(w.b)} }

// around is how often a row goes around a point, as it is seen.
func (v view) around(n int) int {
	if v.flip {
		return -n
	}
	return n
}

// beside is how often a row goes around the points left and right of a segment, as it is seen.
func (v view) beside(left, right int) (int, int) {
	if v.flip {
		return -right, -left
	}
	return left, right
}

// views leave all where it is, turn it by quarters and otherwise, mirror it, make it greater and smaller, and take it to broken coordinates and to those of many digits.
func views() []view {
	o, i, m := ratio(0, 1), ratio(1, 1), ratio(-1, 1)
	far := sum(power(60), ratio(1, 7))
	return append(grids(), []view{
		{m, o, false, spot{ratio(1, 2), ratio(-1, 3)}},
		{m, o, true, spot{ratio(1, 9), ratio(1, 6)}},
		{ratio(3, 5), ratio(-4, 5), false, at(0, 0)},
		{i, o, false, spot{far, negated(far)}},
		{ratio(2, 3), ratio(-1, 2), true, at(1, 1)},
		{far, i, false, spot{ratio(1, 3), far}},
		{over(ratio(3, 1), sum(power(55), i)), o, false, at(0, 0)},
	}...)
}

// grids are the views by which what is on the grid stays there.
func grids() []view {
	o, i, m := ratio(0, 1), ratio(1, 1), ratio(-1, 1)
	return []view{
		{i, o, false, at(0, 0)},
		{o, i, false, at(-3, 8)},
		{m, o, false, at(5, -2)},
		{o, m, false, at(1<<40, 0)},
		{i, o, true, at(0, 5)},
		{o, i, true, at(0, 0)},
		{m, o, true, at(-1<<62, 1<<62)},
		{o, m, true, at(-7, -7)},
		{ratio(7, 1), o, false, at(2, 2)},
		{ratio(3, 1), ratio(4, 1), false, at(0, 1)},
		{ratio(-1, 1), ratio(1, 1), false, at(0, 0)},
		{ratio(-3, 1), ratio(2, 1), true, at(4, 0)},
		{ratio(1<<40, 1), ratio(1, 1), false, at(-1<<30, 0)},
	}
}

// chain gives numbers that look like chance, the same ones each time.
type chain uint64

func (c *chain) next() uint64 {
	*c ^= *c << 13
	*c ^= *c >> 7
	*c ^= *c << 17
	return uint64(*c)
}

// within gives a number from first to last.
func (c *chain) within(first, last int64) int64 {
	return first + int64(c.next()%uint64(last-first+1))
}

// spot gives a point whose coordinates have numerators of -n to n, and denominators of 1 to d.
func (c *chain) spot(n, d int64) spot {
	return spot{ratio(c.within(-n, n), c.within(1, d)), ratio(c.within(-n, n), c.within(1, d))}
}

// row gives so many such points.
func (c *chain) row(length int, n, d int64) []spot {
	var l []spot
	for range length {
		l = append(l, c.spot(n, d))
	}
	return l
}

// small are the points of a grid from first to last in both coordinates, over the denominator d.
func small(first, last, d int64) []spot {
	var l []spot
	for x := first; x <= last; x++ {
		for y := first; y <= last; y++ {
			l = append(l, spot{ratio(x, d), ratio(y, d)})
		}
	}
	return l
}
