package plane_test

import (
	"math/big"
	"strings"
	"testing"

	"pellicle/api"
	"pellicle/frac"
	"pellicle/plane"
)

const (
	least = -1 << 63  // the least int
	most  = 1<<63 - 1 // the greatest one
)

// ratio is n/d by math/big.
func ratio(n, d int64) *big.Rat { return big.NewRat(n, d) }

func sum(a, b *big.Rat) *big.Rat { return new(big.Rat).Add(a, b) }

func less(a, b *big.Rat) *big.Rat { return new(big.Rat).Sub(a, b) }

func times(a, b *big.Rat) *big.Rat { return new(big.Rat).Mul(a, b) }

func over(a, b *big.Rat) *big.Rat { return new(big.Rat).Quo(a, b) }

// power is 10^n.
func power(n int64) *big.Rat {
	return new(big.Rat).SetInt(new(big.Int).Exp(big.NewInt(10), big.NewInt(n), nil))
}

// rational makes b.
func rational(b *big.Rat) frac.Rat {
	a, e := frac.Parse(b.RatString())
	if e != api.OK {
		panic(e)
	}
	return a
}

// spot is a point, or a way between two, by math/big.
type spot struct{ x, y *big.Rat }

// at is a spot on the grid.
func at(x, y int64) spot { return spot{ratio(x, 1), ratio(y, 1)} }

func (p spot) plus(q spot) spot { return spot{sum(p.x, q.x), sum(p.y, q.y)} }

func (p spot) minus(q spot) spot { return spot{less(p.x, q.x), less(p.y, q.y)} }

func (p spot) times(by *big.Rat) spot { return spot{times(p.x, by), times(p.y, by)} }

func (p spot) cross(q spot) *big.Rat { return less(times(p.x, q.y), times(p.y, q.x)) }

func (p spot) dot(q spot) *big.Rat { return sum(times(p.x, q.x), times(p.y, q.y)) }

// none: is it 0 0?
func (p spot) none() bool { return p.x.Sign() == 0 && p.y.Sign() == 0 }

func (p spot) text() string { return p.x.RatString() + " " + p.y.RatString() }

func (p spot) point() plane.Pt { return plane.Pt{X: rational(p.x), Y: rational(p.y)} }

// order is how the chapter's words put two points.
func (p spot) order(q spot) int {
	if p.x.Cmp(q.x) != 0 {
		return p.x.Cmp(q.x)
	}
	return p.y.Cmp(q.y)
}

// row makes spots on the grid of their coordinates.
func row(l ...int64) []spot {
	var out []spot
	for i := 0; i+1 < len(l); i += 2 {
		out = append(out, at(l[i], l[i+1]))
	}
	return out
}

func points(l []spot) []plane.Pt {
	var out []plane.Pt
	for _, p := range l {
		out = append(out, p.point())
	}
	return out
}

// way is a segment by math/big.
type way struct{ a, b spot }

// from is a segment on the grid.
func from(a, b, c, d int64) way { return way{at(a, b), at(c, d)} }

func (w way) seg() plane.Seg { return plane.Seg{A: w.a.point(), B: w.b.point()} }

func (w way) back() way { return way{w.b, w.a} }

func (w way) dir() spot { return w.b.minus(w.a) }

// along is the point at that part of the way.
func (w way) along(part *big.Rat) spot { return w.a.plus(w.dir().times(part)) }

func (w way) text() string { return w.a.text() + " - " + w.b.text() }

func texts(l []plane.Pt) string {
	var out []string
	for _, p := range l {
		out = append(out, p.Text())
	}
	return strings.Join(out, ", ")
}

func spotTexts(l []spot) string {
	var out []string
	for _, p := range l {
		out = append(out, p.text())
	}
	return strings.Join(out, ", ")
}

// isList asks for these points in this order.
func isList(t *testing.T, what string, got []plane.Pt, want []spot) {
	t.Helper()
	if texts(got) != spotTexts(want) {
		t.Fatalf("%s: %s, want %s", short(what), short(texts(got)), short(spotTexts(want)))
	}
	for i, p := range got {
		if p.Cmp(want[i].point()) != 0 {
			t.Fatalf("%s: point %d isn't itself", short(what), i)
		}
	}
}

// isNumber holds a number against what it should be.
func isNumber(t *testing.T, what string, got frac.Rat, want *big.Rat) {
	t.Helper()
	if got.Text() != want.RatString() || got.Sign() != want.Sign() || got.Cmp(rational(want)) != 0 {
		t.Fatalf("%s: %s, want %s", short(what), short(got.Text()), short(want.RatString()))
	}
}

func short(s string) string {
	if len(s) > 600 {
		return s[:600] + ".."
	}
	return s
}

// view takes points to others: x' = a x + b y + e, y' = c x + d y + f.
type view struct{ a, b, c, d, e, f *big.Rat }

func (v view) of(p spot) spot {
	return spot{sum(sum(times(v.a, p.x), times(v.b, p.y)), v.e), sum(sum(times(v.c, p.x), times(v.d, p.y)), v.f)}
}

func (v view) row(l []spot) []spot {
	var out []spot
	for _, p := range l {
		out = append(out, v.of(p))
	}
	return out
}

func (v view) way(w way) way { return way{v.of(w.a), v.of(w.b)} }

// grows is what areas are multiplied by: below 0, if left becomes right.
func (v view) grows() *big.Rat { return less(times(v.a, v.d), times(v.b, v.c)) }

// views leave all where it is, turn it by quarters, mirror it, take it to broken coordinates, to those of many digits, to slanted lines; none of them loses a direction.
func views() []view {
	o, i, m := ratio(0, 1), ratio(1, 1), ratio(-1, 1)
	far, near := sum(power(60), ratio(1, 7)), over(ratio(3, 1), sum(power(55), ratio(1, 1)))
	return []view{
		{i, o, o, i, o, o},
		{o, m, i, o, ratio(-3, 1), ratio(8, 1)},
		{m, o, o, m, ratio(1, 2), ratio(-1, 3)},
		{o, i, m, o, ratio(1<<40, 1), o},
		{i, o, o, m, o, ratio(5, 1)},
		{o, i, i, o, o, o},
		{ratio(1, 6), o, o, ratio(1, 10), ratio(-1, 4), ratio(2, 9)},
		{ratio(3, 5), ratio(-4, 5), ratio(4, 5), ratio(3, 5), o, o},
		{ratio(2, 1), ratio(7, 3), ratio(-1, 2), ratio(5, 1), ratio(1, 11), ratio(-13, 1)},
		{i, o, o, i, far, new(big.Rat).Neg(far)},
		{near, far, far, near, ratio(1, 3), near},
		{near, o, o, near, o, o},
	}
}

// heavy are numbers on both sides of 0: whole ones, broken ones, long ones, and some that lie close together.
func heavy() []*big.Rat {
	tiny := over(ratio(1, 1), power(70))
	l := []*big.Rat{ratio(0, 1)}
	for _, b := range []*big.Rat{ratio(1, 1), ratio(7, 1), ratio(1, 2), ratio(2, 3), ratio(1<<62, 1), power(80)} {
		l = append(l, b, new(big.Rat).Neg(b))
	}
	return append(l, tiny, sum(ratio(1, 2), tiny), less(ratio(-2, 3), tiny), sum(power(80), tiny), over(sum(power(300), ratio(7, 1)), sum(power(299), ratio(1, 1))))
}

// spots are points of such numbers.
func spots() []spot {
	var l []spot
	for _, x := range heavy() {
		for _, y := range heavy() {
			l = append(l, spot{x, y})
		}
	}
	return l
}

// few is every n-th of them.
func few(l []spot, n int) []spot {
	var out []spot
	for i, p := range l {
		if i%n == 0 {
			out = append(out, p)
		}
	}
	return out
}

// chain gives numbers that look like chance, the same ones each time.
type chain uint64

func (c *chain) next() uint64 {
	*c ^= *c << 13
	*c ^= *c >> 7
	*c ^= *c << 17
	return uint64(*c)
}

// within gives a number from first to last.
func (c *chain) within(first, last int64) int64 {
	return first + int64(c.next()%uint64(last-first+1))
}

// spot gives a point whose coordinates have numerators of -n to n, and denominators of 1 to d.
func (c *chain) spot(n, d int64) spot {
	return spot{ratio(c.within(-n, n), c.within(1, d)), ratio(c.within(-n, n), c.within(1, d))}
}

func (c *chain) way(n, d int64) way { return way{c.spot(n, d), c.spot(n, d)} }

func (c *chain) row(points int, n, d int64) []spot {
	var l []spot
	for range points {
		l = append(l, c.spot(n, d))
	}
	return l
}

// small are all points of a grid of that many in a row and in a column.
func small(n int64) []spot {
	var l []spot
	for x := range n {
		for y := range n {
			l = append(l, at(x, y))
		}
	}
	return l
}

// waysOf are all segments between these points, those of one point too.
func waysOf(l []spot) []way {
	var out []way
	for _, p := range l {
		for _, q := range l {
			out = append(out, way{p, q})
		}
	}
	return out
}
