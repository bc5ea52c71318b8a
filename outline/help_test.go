package outline_test

import (
	"math/big"
	"testing"

	"pellicle/api"
	"pellicle/frac"
	"pellicle/octant"
	"pellicle/outline"
	"pellicle/surd"
	"pellicle/zed"
)

const (
	least = -1 << 63  // the least int
	most  = 1<<63 - 1 // the greatest one
	low   = -1 << 31  // the grid's least coordinate
	high  = 1<<31 - 1 // its greatest one
)

// way is a path by what Of is asked.
type way struct {
	pts                     []api.Pt
	width, kind, begin, end int
}

func (w way) of() ([]octant.Place, api.Errno) {
	return outline.Of(w.pts, w.width, w.kind, w.begin, w.end)
}

// places asks for a path that has some.
func (w way) places(t *testing.T) []octant.Place {
	t.Helper()
	l, e := w.of()
	if e != api.OK {
		t.Fatalf("%v: error %d", w, e)
	}
	return l
}

// fails asks for an error, and no places beside it.
func (w way) fails(t *testing.T, want api.Errno) {
	t.Helper()
	l, e := w.of()
	if e != want || len(l) > 0 {
		t.Fatalf("%d points, %d %d %d %d: error %d, want %d, %d places", len(w.pts), w.width, w.kind, w.begin, w.end, e, want, len(l))
	}
}

// ends gives how far the path goes on at its ends, as the chapter has it.
func (w way) ends() (begin, end *big.Rat) {
	switch w.kind {
	case 2:
		return ratio(w.width, 2), ratio(w.width, 2)
	case 4:
		return ratio(w.begin, 1), ratio(w.end, 1)
	}
	return ratio(0, 1), ratio(0, 1)
}

// row makes points of their coordinates.
func row(l ...int) []api.Pt {
	var pts []api.Pt
	for i := 0; i+1 < len(l); i += 2 {
		pts = append(pts, api.Pt{X: l[i], Y: l[i+1]})
	}
	return pts
}

// ratio is n/d by math/big.
func ratio(n, d int) *big.Rat { return big.NewRat(int64(n), int64(d)) }

func minus(a *big.Rat) *big.Rat { return new(big.Rat).Neg(a) }

// rational makes b.
func rational(b *big.Rat) frac.Rat {
	a, e := frac.Parse(b.RatString())
	if e != api.OK {
		panic(e)
	}
	return a
}

// integer makes b.
func integer(b *big.Int) zed.Int {
	a, e := zed.Parse(b.String())
	if e != api.OK {
		panic(e)
	}
	return a
}

// of makes a number of that field.
func of(m, n zed.Int, parts ...*big.Rat) surd.Surd {
	var l []frac.Rat
	for _, part := range parts {
		l = append(l, rational(part))
	}
	a, e := surd.Of(m, n, l...)
	if e != api.OK {
		panic(e)
	}
	return a
}

// line is a direction by math/big.
type line struct{ x, y *big.Int }

// between gives the direction from a point to another one.
func between(p, q api.Pt) line {
	x, y := big.NewInt(int64(q.X-p.X)), big.NewInt(int64(q.Y-p.Y))
	by := new(big.Int).GCD(nil, nil, new(big.Int).Abs(x), new(big.Int).Abs(y))
	return line{x.Quo(x, by), y.Quo(y, by)}
}

func (d line) left() line { return line{new(big.Int).Neg(d.y), d.x} }

func (d line) back() line { return line{new(big.Int).Neg(d.x), new(big.Int).Neg(d.y)} }

func (d line) plus(e line) line { return line{new(big.Int).Add(d.x, e.x), new(big.Int).Add(d.y, e.y)} }

// square is dx dx + dy dy.
func (d line) square() zed.Int {
	x, y := new(big.Int).Mul(d.x, d.x), new(big.Int).Mul(d.y, d.y)
	return integer(x.Add(x, y))
}

// arrow is the way from a corner to a place, of a field.
type arrow struct{ x, y surd.Surd }

// from gives the arrow from the corner, if the place is of the field.
func from(t *testing.T, p api.Pt, q octant.Place, m, n zed.Int) arrow {
	t.Helper()
	for _, a := range []surd.Surd{q.X, q.Y} {
		if k, l := a.Field(); k.Cmp(m) != 0 || l.Cmp(n) != 0 {
			t.Fatalf("corner %v: field %s, %s, want %s, %s", p, k.Text(), l.Text(), m.Text(), n.Text())
		}
	}
	x, _ := q.X.Sub(of(m, n, ratio(p.X, 1)))
	y, _ := q.Y.Sub(of(m, n, ratio(p.Y, 1)))
	return arrow{x, y}
}

// times is the product of the arrow and a direction: a . d.
func (a arrow) times(d line) surd.Surd {
	m, n := a.x.Field()
	x, _ := a.x.Mul(of(m, n, new(big.Rat).SetInt(d.x)))
	y, _ := a.y.Mul(of(m, n, new(big.Rat).SetInt(d.y)))
	sum, _ := x.Add(y)
	return sum
}

// square is how long the arrow is, squared.
func (a arrow) square() surd.Surd {
	x, _ := a.x.Mul(a.x)
	y, _ := a.y.Mul(a.y)
	sum, _ := x.Add(y)
	return sum
}

// like asks for the same number of one field.
func like(t *testing.T, what string, got, want surd.Surd) {
	t.Helper()
	if order, e := got.Cmp(want); order != 0 || e != api.OK {
		t.Fatalf("%s: %d, error %d", what, order, e)
	}
}

// isBend asks for a place that lies so far left of the lines by d and by e through the corner.
func isBend(t *testing.T, q octant.Place, p api.Pt, d, e line, far *big.Rat) {
	t.Helper()
	m, n, none := d.square(), e.square(), ratio(0, 1)
	a := from(t, p, q, m, n)
	like(t, "left of the line to the corner", a.times(d.left()), of(m, n, none, far))
	like(t, "left of the line from the corner", a.times(e.left()), of(m, n, none, none, far))
}

// isEnd asks for a place that lies so far along the direction, and so far left of it.
func isEnd(t *testing.T, q octant.Place, p api.Pt, d line, along, far *big.Rat) {
	t.Helper()
	m, n, none := d.square(), zed.Of(2), ratio(0, 1)
	a := from(t, p, q, m, n)
	like(t, "along the direction", a.times(d), of(m, n, none, along))
	like(t, "left of the direction", a.times(d.left()), of(m, n, none, far))
}

// isRound asks for a place at that distance of the corner, at the end by d, in the direction toward.
func isRound(t *testing.T, q octant.Place, p api.Pt, d, toward line, far *big.Rat) {
	t.Helper()
	m, n := d.square(), zed.Of(2)
	a := from(t, p, q, m, n)
	like(t, "how far", a.square(), of(m, n, new(big.Rat).Mul(far, far)))
	like(t, "beside the direction", a.times(toward.left()), of(m, n))
	if a.times(toward).Sign() <= 0 {
		t.Fatalf("corner %v: the other way", p)
	}
}

// holds asks for the places that the chapter's words say of a path with these corners, one by one in its order.
func holds(t *testing.T, w way, corners []api.Pt) {
	t.Helper()
	rest, last := w.places(t), len(corners)-1
	next := func() octant.Place {
		if len(rest) == 0 {
			t.Fatalf("%v: too few places", w)
		}
		q := rest[0]
		rest = rest[1:]
		return q
	}
	three := func(p api.Pt, d line) {
		for _, toward := range []line{d.plus(d.left()), d, d.plus(d.left().back())} {
			if w.kind == 1 {
				isRound(t, next(), p, d, toward, ratio(w.width, 2))
			}
		}
	}
	leg := func(i int) line { return between(corners[i], corners[i+1]) }
	far, back := ratio(w.width, 2), ratio(-w.width, 2)
	begin, end := w.ends()
	isEnd(t, next(), corners[0], leg(0), minus(begin), far)
	for i := 1; i < last; i++ {
		isBend(t, next(), corners[i], leg(i-1), leg(i), far)
	}
	isEnd(t, next(), corners[last], leg(last-1), end, far)
	three(corners[last], leg(last-1))
	isEnd(t, next(), corners[last], leg(last-1), end, back)
	for i := last - 1; i > 0; i-- {
		isBend(t, next(), corners[i], leg(i-1), leg(i), back)
	}
	isEnd(t, next(), corners[0], leg(0), minus(begin), back)
	three(corners[0], leg(0).back())
	if len(rest) > 0 {
		t.Fatalf("%v: %d places too many", w, len(rest))
	}
}

// holdsAll asks for a path with these corners, of all kinds, some widths and ends.
func holdsAll(t *testing.T, corners []api.Pt) {
	t.Helper()
	for _, x := range []struct{ width, kind, begin, end int }{
		{4, 0, 0, 0}, {7, 0, 3, -9}, {1, 1, 0, 0}, {6, 1, -5, 2}, {2, 2, 0, 0}, {5, 2, 8, 8},
		{3, 4, 0, 0}, {8, 4, 5, -7}, {9, 4, -6, 11}, {high, 4, -high, high},
	} {
		holds(t, way{corners, x.width, x.kind, x.begin, x.end}, corners)
	}
}

// alike asks for the same places, of the same fields.
func alike(t *testing.T, what string, got, want []octant.Place) {
	t.Helper()
	if len(got) != len(want) {
		t.Fatalf("%s: %d places, want %d", what, len(got), len(want))
	}
	for i, p := range got {
		like(t, what, p.X, want[i].X)
		like(t, what, p.Y, want[i].Y)
	}
}

// chain gives numbers that look like chance, the same ones each time.
type chain uint64

func (c *chain) next() uint64 {
	*c ^= *c << 13
	*c ^= *c >> 7
	*c ^= *c << 17
	return uint64(*c)
}

// from gives a number from first to last.
func (c *chain) from(first, last int) int {
	return first + int(c.next()%uint64(last-first+1))
}

// path gives n corners whose coordinates are from first to last.
func (c *chain) path(n, first, last int) []api.Pt {
	var l []api.Pt
	for len(l) < n {
		l = append(l, api.Pt{X: c.from(first, last), Y: c.from(first, last)})
		if k := len(l); k > 1 && l[k-1] == l[k-2] || k > 2 && inLine(l[k-3], l[k-2], l[k-1]) {
			l = l[:k-1]
		}
	}
	return l
}

// inLine: do three points lie on one line, straight on or not?
func inLine(p, q, r api.Pt) bool {
	first, second := big.NewInt(int64(q.X-p.X)), big.NewInt(int64(q.Y-p.Y))
	first.Mul(first, big.NewInt(int64(r.Y-q.Y)))
	second.Mul(second, big.NewInt(int64(r.X-q.X)))
	return first.Cmp(second) == 0
}
