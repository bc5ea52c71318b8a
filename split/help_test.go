package split_test

import (
	"math/big"
	"slices"
	"strings"
	"testing"

	"pellicle/api"
	"pellicle/frac"
	"pellicle/plane"
	"pellicle/split"
)

const (
	lowest = -1 << 63  // the least int
	top    = 1<<63 - 1 // the greatest one
)

// ratio is n/d by math/big.
func ratio(n, d int64) *big.Rat { return big.NewRat(n, d) }

func sum(a, b *big.Rat) *big.Rat { return new(big.Rat).Add(a, b) }

func less(a, b *big.Rat) *big.Rat { return new(big.Rat).Sub(a, b) }

func times(a, b *big.Rat) *big.Rat { return new(big.Rat).Mul(a, b) }

func over(a, b *big.Rat) *big.Rat { return new(big.Rat).Quo(a, b) }

func negated(a *big.Rat) *big.Rat { return new(big.Rat).Neg(a) }

// power is 10^n.
func power(n int64) *big.Rat {
	return new(big.Rat).SetInt(new(big.Int).Exp(big.NewInt(10), big.NewInt(n), nil))
}

// rational makes b.
func rational(b *big.Rat) frac.Rat {
	a, e := frac.Parse(b.RatString())
	if e != api.OK {
		panic(e)
	}
	return a
}

// spot is a point, or a way between two, by math/big.
type spot struct{ x, y *big.Rat }

// at is a spot on the grid.
func at(x, y int64) spot { return spot{ratio(x, 1), ratio(y, 1)} }

func (p spot) plus(q spot) spot { return spot{sum(p.x, q.x), sum(p.y, q.y)} }

func (p spot) minus(q spot) spot { return spot{less(p.x, q.x), less(p.y, q.y)} }

func (p spot) times(by *big.Rat) spot { return spot{times(p.x, by), times(p.y, by)} }

func (p spot) cross(q spot) *big.Rat { return less(times(p.x, q.y), times(p.y, q.x)) }

func (p spot) dot(q spot) *big.Rat { return sum(times(p.x, q.x), times(p.y, q.y)) }

// none: is it 0 0?
func (p spot) none() bool { return p.x.Sign() == 0 && p.y.Sign() == 0 }

// order is how chapter 11's words put two points.
func (p spot) order(q spot) int {
	if p.x.Cmp(q.x) != 0 {
		return p.x.Cmp(q.x)
	}
	return p.y.Cmp(q.y)
}

func (p spot) same(q spot) bool { return p.order(q) == 0 }

func (p spot) text() string { return p.x.RatString() + " " + p.y.RatString() }

func (p spot) point() plane.Pt { return plane.Pt{X: rational(p.x), Y: rational(p.y)} }

// way is a segment by math/big.
type way struct{ a, b spot }

// from is a segment on the grid.
func from(a, b, c, d int64) way { return way{at(a, b), at(c, d)} }

func (w way) seg() plane.Seg { return plane.Seg{A: w.a.point(), B: w.b.point()} }

func (w way) back() way { return way{w.b, w.a} }

func (w way) dir() spot { return w.b.minus(w.a) }

// along is the point at that part of the way.
func (w way) along(part *big.Rat) spot { return w.a.plus(w.dir().times(part)) }

// rising is it, from the lesser end to the greater one.
func (w way) rising() way {
	if w.a.order(w.b) > 0 {
		return w.back()
	}
	return w
}

// order is how the chapter's words put two pieces.
func (w way) order(v way) int {
	if n := w.a.order(v.a); n != 0 {
		return n
	}
	return w.b.order(v.b)
}

func (w way) text() string { return w.a.text() + " to " + w.b.text() }

// ways reads segments that are told as text does: 0 0 to 2 2, 0 4 to 2 2.
func ways(s string) []way {
	var l []way
	for _, told := range strings.FieldsFunc(s, func(r rune) bool { return r == ',' }) {
		var n []*big.Rat
		for _, word := range strings.Fields(strings.Replace(told, "to", "", 1)) {
			b, ok := new(big.Rat).SetString(word)
			if !ok {
				panic("the test is wrong: " + s)
			}
			n = append(n, b)
		}
		l = append(l, way{spot{n[0], n[1]}, spot{n[2], n[3]}})
	}
	return l
}

func text(l []way) string {
	var out []string
	for _, w := range l {
		out = append(out, w.text())
	}
	return strings.Join(out, ", ")
}

func texts(l []plane.Seg) string {
	var out []string
	for _, s := range l {
		out = append(out, s.A.Text()+" to "+s.B.Text())
	}
	return strings.Join(out, ", ")
}

func short(s string) string {
	if len(s) > 900 {
		return s[:900] + ".."
	}
	return s
}

func segs(l []way) []plane.Seg {
	var out []plane.Seg
	for _, w := range l {
		out = append(out, w.seg())
	}
	return out
}

// backs turns every so many-th of the segments to the other direction.
func backs(l []way, every int) []way {
	out := slices.Clone(l)
	for i := range out {
		if i%every == 0 {
			out[i] = out[i].back()
		}
	}
	return out
}

func reversed(l []way) []way {
	out := slices.Clone(l)
	slices.Reverse(out)
	return out
}

// pieces is what Of tells of segments of which there aren't too many.
func pieces(t *testing.T, l []plane.Seg) []plane.Seg {
	t.Helper()
	out, e := split.Of(l)
	if e != api.OK {
		t.Fatalf("%s: error %d", short(texts(l)), e)
	}
	return out
}

// splits asks for the pieces of segments.
func splits(t *testing.T, l, want []way) {
	t.Helper()
	if got := texts(pieces(t, segs(l))); got != text(want) {
		t.Fatalf("%s: %s, want %s", short(text(l)), short(got), short(text(want)))
	}
}

// view takes points to others: x' = a x + b y + e, y' = c x + d y + f.
type view struct{ a, b, c, d, e, f *big.Rat }

func (v view) of(p spot) spot {
	return spot{sum(sum(times(v.a, p.x), times(v.b, p.y)), v.e), sum(sum(times(v.c, p.x), times(v.d, p.y)), v.f)}
}

func (v view) ways(l []way) []way {
	var out []way
	for _, w := range l {
		out = append(out, way{v.of(w.a), v.of(w.b)})
	}
	return out
}

// pieces are pieces as they are seen.
func (v view) pieces(l []way) []way {
	out := v.ways(l)
	for i, w := range out {
		out[i] = w.rising()
	}
	slices.SortFunc(out, way.order)
	return out
}

// views leave all where it is, turn it by quarters, mirror it, take it to broken coordinates, to those of many digits, to slanted lines; none of them loses a direction.
func views() []view {
	o, i, m := ratio(0, 1), ratio(1, 1), ratio(-1, 1)
	far, near := sum(power(60), ratio(1, 7)), over(ratio(3, 1), sum(power(55), ratio(1, 1)))
	return []view{
		{i, o, o, i, o, o},
		{o, m, i, o, ratio(-3, 1), ratio(8, 1)},
		{m, o, o, m, ratio(1, 2), ratio(-1, 3)},
		{o, i, m, o, ratio(1<<40, 1), o},
		{i, o, o, m, o, ratio(5, 1)},
		{o, i, i, o, o, o},
		{ratio(1, 6), o, o, ratio(1, 10), ratio(-1, 4), ratio(2, 9)},
		{ratio(3, 5), ratio(-4, 5), ratio(4, 5), ratio(3, 5), o, o},
		{ratio(2, 1), ratio(7, 3), ratio(-1, 2), ratio(5, 1), ratio(1, 11), ratio(-13, 1)},
		{i, o, o, i, far, negated(far)},
		{i, i, o, i, o, o}, // what falls by 45 degrees stands upright
		{ratio(1<<62, 1), o, o, ratio(1, 1<<62), o, o},
		{near, far, far, near, ratio(1, 3), near},
		{near, o, o, near, o, o},
	}
}

// chain gives numbers that look like chance, the same ones each time.
type chain uint64

func (c *chain) next() uint64 {
	*c ^= *c << 13
	*c ^= *c >> 7
	*c ^= *c << 17
	return uint64(*c)
}

// within gives a number from first to last.
func (c *chain) within(first, last int64) int64 {
	return first + int64(c.next()%uint64(last-first+1))
}

// spot gives a point whose coordinates have numerators of -n to n, and denominators of 1 to d.
func (c *chain) spot(n, d int64) spot {
	return spot{ratio(c.within(-n, n), c.within(1, d)), ratio(c.within(-n, n), c.within(1, d))}
}

func (c *chain) way(n, d int64) way { return way{c.spot(n, d), c.spot(n, d)} }

func (c *chain) ways(length int, n, d int64) []way {
	var l []way
	for range length {
		l = append(l, c.way(n, d))
	}
	return l
}
