package reach_test

import (
	"math/big"
	"testing"

	"pellicle/api"
	"pellicle/plane"
	"pellicle/reach"
)

// P12.1: the square of two points, written out, and the same seen otherwise, in both orders.
func TestSquare(t *testing.T) {
	for _, x := range []struct {
		what string
		p, q spot
		want *big.Rat
	}{
		{"the same", at(3, -4), at(3, -4), ratio(0, 1)},
		{"the same, at 0", at(0, 0), at(0, 0), ratio(0, 1)},
		{"the same, broken", spot{ratio(1, 3), ratio(2, 4)}, spot{ratio(2, 6), ratio(1, 2)}, ratio(0, 1)},
		{"unlike in X alone", at(-2, 5), at(7, 5), ratio(81, 1)},
		{"unlike in X alone, by 1", at(0, 0), at(-1, 0), ratio(1, 1)},
		{"unlike in Y alone", at(5, 4), at(5, -2), ratio(36, 1)},
		{"unlike in Y alone, by a third", spot{ratio(5, 1), ratio(1, 3)}, spot{ratio(5, 1), ratio(2, 3)}, ratio(1, 9)},
		{"unlike in both", at(1, 2), at(4, 6), ratio(25, 1)},
		{"unlike in both, the other way", at(1, 6), at(4, 2), ratio(25, 1)},
		{"a root that isn't whole", at(0, 0), at(1, 1), ratio(2, 1)},
		{"X and Y change places", at(2, 9), at(9, 2), ratio(98, 1)},
		{"broken", spot{ratio(1, 2), ratio(1, 3)}, spot{ratio(-1, 4), ratio(5, 6)}, ratio(13, 16)},
		{"broken, a whole square", spot{ratio(-3, 5), ratio(4, 5)}, at(0, 0), ratio(1, 1)},
		{"far", at(lowest, 0), at(top, 0), times(less(power2(64), ratio(1, 1)), less(power2(64), ratio(1, 1)))},
		{"many digits", spot{power(50), ratio(0, 1)}, spot{ratio(0, 1), power(50)}, times(ratio(2, 1), power(100))},
		{"close in many digits", spot{sum(power(50), over(ratio(1, 1), power(50))), power(50)}, spot{power(50), power(50)}, over(ratio(1, 1), power(100))},
	} {
		for _, v := range views() {
			p, q, want := v.of(x.p), v.of(x.q), v.grown(x.want)
			isNumber(t, x.what+": "+p.text()+", "+q.text(), reach.Square(p.point(), q.point()), want)
			isNumber(t, x.what+": "+q.text()+", "+p.text(), reach.Square(q.point(), p.point()), want)
		}
	}
	isNumber(t, "the zero value", reach.Square(plane.Pt{}, plane.Pt{}), ratio(0, 1))
	isNumber(t, "the zero value and another", reach.Square(plane.Pt{}, plane.Grid(api.Pt{X: 3, Y: -4})), ratio(25, 1))
}

// power2 is 2^n.
func power2(n uint) *big.Rat { return new(big.Rat).SetInt(new(big.Int).Lsh(big.NewInt(1), n)) }

// P12.1: the square of two points of whole, broken and long coordinates, as the chapter's words have it.
func TestSquareMany(t *testing.T) {
	l := spots()
	for i, p := range few(l, 3) {
		for _, q := range few(l[i%2:], 4) {
			isNumber(t, p.text()+", "+q.text(), reach.Square(p.point(), q.point()), p.square(q))
		}
	}
	c := chain(88172645463325252)
	for i := range int64(2000) {
		p, q := c.spot(1<<(4+i%50), 1+i%9), c.spot(1<<(4+i%50), 1+i%7)
		isNumber(t, p.text()+", "+q.text(), reach.Square(p.point(), q.point()), p.square(q))
	}
}

// goesTo asks for the least square of a segment's points and p, told from both ends.
func goesTo(t *testing.T, what string, s way, p spot, want *big.Rat) {
	t.Helper()
	isNumber(t, what+": "+s.text()+", "+p.text(), reach.To(s.seg(), p.point()), want)
	isNumber(t, what+": "+s.back().text()+", "+p.text(), reach.To(s.back().seg(), p.point()), want)
}

// P12.1: the least square of a segment's points and a point, written out, and the same seen otherwise.
func TestTo(t *testing.T) {
	level, slanted, one := from(0, 0, 4, 0), from(0, 0, 3, 1), from(2, 3, 2, 3)
	for _, x := range []struct {
		what string
		s    way
		p    spot
		want *big.Rat
	}{
		{"on it", level, at(1, 0), ratio(0, 1)},
		{"on it, broken", slanted, spot{ratio(1, 1), ratio(1, 3)}, ratio(0, 1)},
		{"at its first end", slanted, at(0, 0), ratio(0, 1)},
		{"at its last end", slanted, at(3, 1), ratio(0, 1)},
		{"beyond, on the line", slanted, at(6, 2), ratio(10, 1)},
		{"ahead of it, on the line", slanted, at(-3, -1), ratio(10, 1)},
		{"beyond, left of the line", level, at(7, 4), ratio(25, 1)},
		{"beyond, right of the line", level, at(7, -4), ratio(25, 1)},
		{"ahead of it, left of the line", level, at(-1, 1), ratio(2, 1)},
		{"ahead of it, right of the line", level, at(-5, -12), ratio(169, 1)},
		{"just beyond, all but beside it", level, spot{ratio(401, 100), ratio(3, 1)}, ratio(90001, 10000)},
		{"just within, all but beyond", level, spot{ratio(399, 100), ratio(3, 1)}, ratio(9, 1)},
		{"square off its last end", level, at(4, 3), ratio(9, 1)},
		{"square off its first end", level, at(0, -2), ratio(4, 1)},
		{"square off a slanted one's end", slanted, at(2, 4), ratio(10, 1)},
		{"a little beyond a slanted one's end, though its X is within", slanted, at(2, 5), ratio(17, 1)},
		{"beside its middle", level, at(2, 5), ratio(25, 1)},
		{"beside it, near an end", level, at(3, -1), ratio(1, 1)},
		{"beside a slanted one", slanted, at(0, 5), ratio(45, 2)},
		{"beside a slanted one, on the other side", slanted, at(2, -1), ratio(5, 2)},
		{"beside a slanted one, at its middle", from(0, 0, 2, 2), at(0, 2), ratio(2, 1)},
		{"beside it, where neither coordinate is within", from(0, 0, 2, 1), at(1, 2), ratio(9, 5)},
		{"beside one point", one, at(5, 7), ratio(25, 1)},
		{"one point itself", one, at(2, 3), ratio(0, 1)},
		{"beside one point, unlike in X alone", one, at(0, 3), ratio(4, 1)},
		{"beside one point, unlike in Y alone", one, at(2, 4), ratio(1, 1)},
		{"beside one point, broken", way{spot{ratio(1, 2), ratio(1, 3)}, spot{ratio(1, 2), ratio(1, 3)}}, at(0, 0), ratio(13, 36)},
	} {
		for _, v := range views() {
			goesTo(t, x.what, v.way(x.s), v.of(x.p), v.grown(x.want))
		}
	}
	isNumber(t, "the zero values", reach.To(plane.Seg{}, plane.Pt{}), ratio(0, 1))
	isNumber(t, "the zero segment", reach.To(plane.Seg{}, plane.Grid(api.Pt{X: -3, Y: 4})), ratio(25, 1))
	isNumber(t, "the zero point", reach.To(from(3, 0, 0, 3).seg(), plane.Pt{}), ratio(9, 2))
}

// P12.1: To by another reckoning: of all segments of a small grid and all its points, of broken and of long ones.
func TestToMany(t *testing.T) {
	holds := func(s way, p spot) {
		near := s.nearest(p)
		proven(t, s, way{p, p}, near, p)
		goesTo(t, "To", s, p, near.square(p))
	}
	for _, s := range waysOf(small(4)) {
		for _, p := range small(4) {
			holds(s, p)
		}
	}
	l := few(spots(), 5)
	for i := range l {
		holds(way{l[i], l[(i+1)%len(l)]}, l[(i+2)%len(l)])
		holds(way{l[i], l[(i*7+3)%len(l)]}, l[(i*5+1)%len(l)])
	}
	c := chain(362436069)
	for i := range int64(2000) {
		holds(c.way(9, 1+i%5), c.spot(9, 1+i%4))
	}
	for range 100 {
		holds(c.way(1<<60, 1<<30), c.spot(1<<60, 1<<30))
	}
}

// P12.1: a point beside a segment of many digits, all but square off an end, on either side of that line.
func TestToClose(t *testing.T) {
	w := way{spot{power(40), ratio(-1, 3)}, spot{ratio(1, 7), power(41)}}
	off := spot{negated(w.dir().y), w.dir().x} // a quarter to the left
	tiny := w.dir().times(over(ratio(1, 1), power(200)))
	goesTo(t, "square off", w, w.b.plus(off), off.dot(off))
	goesTo(t, "just within", w, w.b.plus(off).minus(tiny), off.dot(off))
	goesTo(t, "just beyond", w, w.b.plus(off).plus(tiny), sum(off.dot(off), tiny.dot(tiny)))
	goesTo(t, "just ahead", w, w.a.minus(off).minus(tiny), sum(off.dot(off), tiny.dot(tiny)))
	goesTo(t, "all but on it", w, w.along(ratio(1, 3)).plus(off.times(over(ratio(1, 1), power(200)))), over(off.dot(off), power(400)))
}
