package reach_test

import (
	"math/big"
	"testing"

	"pellicle/plane"
	"pellicle/reach"
)

// standing is two segments, and their least and greatest square.
type standing struct {
	what        string
	s, u        way
	least, most *big.Rat
}

// standings are the ways in which two segments can stand.
func standings() []standing {
	whole := func(what string, s, u way, least, most int64) standing {
		return standing{what, s, u, ratio(least, 1), ratio(most, 1)}
	}
	return []standing{
		whole("beside one another", from(0, 0, 4, 0), from(1, 2, 9, 9), 4, 162),
		whole("cross within both", from(0, 0, 4, 4), from(0, 4, 4, 0), 0, 16),
		whole("cross, upright and level", from(0, 0, 4, 0), from(2, -1, 2, 1), 0, 5),
		whole("cross at a broken point", from(0, 0, 3, 1), from(0, 1, 1, 0), 0, 9),
		whole("cross far from all ends", from(-1000, 0, 1000, 1), from(0, -1000, 1, 1000), 0, 2002001),
		whole("touch at an end of both", from(0, 0, 4, 0), from(4, 0, 4, 9), 0, 97),
		whole("touch at an end of both, sharply", from(0, 0, 9, 1), from(0, 0, 9, 2), 0, 85),
		whole("touch at an end within the other", from(0, 0, 4, 0), from(2, 0, 2, 5), 0, 29),
		whole("touch at an end within a slanted one", from(0, 0, 6, 3), from(4, 2, 5, 9), 0, 106),
		{"one ends just short of the other", from(0, 0, 1000, 1), from(500, 1, 500, 9), ratio(250000, 1000001), ratio(250081, 1)},
		whole("one ends just behind the other", from(0, 0, 1000, 1), from(500, 0, 500, 9), 0, 250081),
		whole("lines cross beyond one", from(0, 0, 1, 1), from(0, 4, 4, 0), 2, 16),
		whole("lines cross beyond both", from(0, 0, 1, 1), from(0, 6, 2, 4), 10, 36),
		whole("an end beside the other's middle, and no end beside it", from(0, 0, 10, 0), from(5, 3, 6, 9), 9, 117),
		whole("no end beside the other", from(0, 0, 4, 0), from(6, 1, 9, 3), 5, 90),
		whole("parallel, side by side", from(0, 0, 4, 0), from(1, 2, 9, 2), 4, 85),
		whole("parallel, one longer at both ends", from(2, 3, 5, 3), from(0, 0, 9, 0), 9, 58),
		whole("parallel, end to end", from(0, 0, 1, 0), from(3, 2, 4, 2), 8, 20),
		whole("parallel, one begins where the other ends", from(0, 0, 3, 0), from(3, 2, 5, 2), 4, 29),
		whole("parallel, slanted", from(0, 0, 4, 2), from(0, 5, 4, 7), 20, 65),
		{"parallel, slanted, a broken square", from(0, 0, 2, 1), from(0, 1, 2, 2), ratio(4, 5), ratio(8, 1)},
		whole("on one line apart", from(0, 0, 1, 0), from(3, 0, 5, 0), 4, 25),
		whole("on a slanted line apart", from(0, 0, 2, 1), from(4, 2, 8, 4), 5, 80),
		whole("on one line, touching", from(0, 0, 2, 1), from(2, 1, 6, 3), 0, 45),
		whole("on one line, overlapping", from(0, 0, 4, 0), from(1, 0, 9, 0), 0, 81),
		whole("on an upright line, overlapping", from(0, 0, 0, 5), from(0, 2, 0, 9), 0, 81),
		whole("one within the other", from(0, 0, 9, 0), from(1, 0, 3, 0), 0, 64),
		whole("one within the other, from the same end", from(0, 0, 4, 2), from(0, 0, 2, 1), 0, 20),
		whole("the same", from(1, 5, 7, 2), from(1, 5, 7, 2), 0, 45),
		whole("the same the other way round", from(1, 5, 7, 2), from(7, 2, 1, 5), 0, 45),
		whole("one point within", from(1, 1, 1, 1), from(0, 0, 2, 2), 0, 2),
		whole("one point at an end", from(2, 2, 2, 2), from(0, 0, 2, 2), 0, 8),
		whole("one point beyond, on the line", from(3, 3, 3, 3), from(0, 0, 2, 2), 2, 18),
		whole("one point beyond, beside the line", from(2, 0, 2, 0), from(0, 0, 1, 1), 2, 4),
		{"one point beside", from(0, 5, 0, 5), from(0, 0, 3, 1), ratio(45, 2), ratio(25, 1)},
		{"one point beside the middle", from(1, 2, 1, 2), from(0, 0, 2, 1), ratio(9, 5), ratio(5, 1)},
		whole("two points, the same", from(4, -4, 4, -4), from(4, -4, 4, -4), 0, 0),
		whole("two points, unlike in X", from(4, -4, 4, -4), from(7, -4, 7, -4), 9, 9),
		whole("two points, unlike in Y", from(4, -4, 4, -4), from(4, -2, 4, -2), 4, 4),
		whole("two points, unlike in both", from(4, -4, 4, -4), from(7, 0, 7, 0), 25, 25),
		{"two points, broken", way{spot{ratio(1, 2), ratio(1, 3)}, spot{ratio(1, 2), ratio(1, 3)}}, from(0, 0, 0, 0), ratio(13, 36), ratio(13, 36)},
	}
}

// P12.2, P12.4: Least and Most in all ways in which two segments can stand, in each order, told from each end; and the same when all is moved, turned, mirrored, or n times as great.
func TestLeastMost(t *testing.T) {
	for _, x := range standings() {
		t.Run(x.what, func(t *testing.T) {
			for _, v := range views() {
				reaches(t, v.way(x.s), v.way(x.u), v.grown(x.least), v.grown(x.most))
			}
		})
	}
}

// P12.2: the zero value of a segment is one point, 0 0.
func TestZeroSegments(t *testing.T) {
	isNumber(t, "Least", reach.Least(plane.Seg{}, plane.Seg{}), ratio(0, 1))
	isNumber(t, "Most", reach.Most(plane.Seg{}, plane.Seg{}), ratio(0, 1))
	isNumber(t, "Least", reach.Least(plane.Seg{}, from(3, 0, 0, 3).seg()), ratio(9, 2))
	isNumber(t, "Most", reach.Most(from(3, 0, 0, 4).seg(), plane.Seg{}), ratio(16, 1))
	if reach.Closer(plane.Seg{}, plane.Seg{}, 1) || !reach.Closer(plane.Seg{}, from(1, 0, 0, 1).seg(), 1) {
		t.Fatal("Closer")
	}
}

// told holds Least and Most against another reckoning, whose least is proven to be one.
func told(t *testing.T, s, u way) {
	t.Helper()
	p, q := closest(s, u)
	proven(t, s, u, p, q)
	reaches(t, s, u, p.square(q), farthest(s, u))
}

// P12.2: Least and Most by another reckoning, of all segments of a small grid, and of others.
func TestLeastMostMany(t *testing.T) {
	all := waysOf(small(3))
	for i, s := range all {
		for _, u := range all[:i+1] {
			told(t, s, u)
		}
	}
	c := chain(123456789)
	for i := range int64(1000) {
		told(t, c.way(6, 1+i%4), c.way(6, 1+i%3))
	}
	for _, x := range fours() {
		told(t, x[0], x[1])
	}
	l := few(spots(), 6)
	for i := range l {
		told(t, way{l[i], l[(i*3+1)%len(l)]}, way{l[(i*5+2)%len(l)], l[(i*7+3)%len(l)]})
	}
}

// P12.2: segments on one line, in all ways in which their ends can stand, of broken and long coordinates too.
func TestLeastMostAlong(t *testing.T) {
	for _, w := range []way{from(0, 0, 1, 0), from(0, 0, 0, 1), from(5, 7, 2, 9), {spot{power(40), ratio(1, 3)}, spot{ratio(-2, 7), power(45)}}} {
		for i := range int64(4 * 4 * 4 * 4) {
			at := func(k int64) spot { return w.along(ratio(k%4, 3)) }
			told(t, way{at(i), at(i / 4)}, way{at(i / 16), at(i / 64)})
		}
	}
}

// P12.4: every two points of both lie between Least and Most, and both are met.
func TestAllLieBetween(t *testing.T) {
	for _, x := range fours() {
		s, u := x[0].seg(), x[1].seg()
		least, most := reach.Least(s, u), reach.Most(s, u)
		for k := range int64(5 * 5) {
			p, q := x[0].along(ratio(k%5, 4)).point(), x[1].along(ratio(k/5, 4)).point()
			square := reach.Square(p, q)
			if least.Cmp(square) > 0 || most.Cmp(square) < 0 {
				t.Fatal(x[0].text(), x[1].text(), least.Text(), square.Text(), most.Text())
			}
			if to := reach.To(u, p); least.Cmp(to) > 0 || to.Cmp(square) > 0 {
				t.Fatal(x[0].text(), x[1].text(), least.Text(), to.Text(), square.Text())
			}
		}
	}
}
