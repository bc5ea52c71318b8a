package plane_test

import (
	"math/big"
	"slices"
	"testing"

	"pellicle/api"
	"pellicle/plane"
)

// P11.1: Grid is that point, the least and the greatest ints too.
func TestGrid(t *testing.T) {
	l := []int{0, 1, -1, 7, -12, 1<<31 - 1, -1 << 31, 1 << 40, least, least + 1, most}
	for _, x := range l {
		for _, y := range l {
			isList(t, "Grid", []plane.Pt{plane.Grid(api.Pt{X: x, Y: y})}, row(int64(x), int64(y)))
		}
	}
}

// P11.1: Text is both coordinates' texts with a blank between; the zero value is 0 0.
func TestText(t *testing.T) {
	for _, x := range []struct {
		p    spot
		want string
	}{
		{at(0, 0), "0 0"},
		{at(3, -4), "3 -4"},
		{spot{ratio(6, 4), ratio(-6, 9)}, "3/2 -2/3"},
		{spot{ratio(-1, 3), ratio(0, 5)}, "-1/3 0"},
		{spot{power(20), over(ratio(-1, 1), power(20))}, "100000000000000000000 -1/100000000000000000000"},
	} {
		if got := x.p.point().Text(); got != x.want {
			t.Fatalf("%s, want %s", got, x.want)
		}
	}
	if got := (plane.Pt{}).Text(); got != "0 0" {
		t.Fatal(got)
	}
	for _, p := range spots() {
		if got := p.point().Text(); got != p.text() {
			t.Fatalf("%s, want %s", got, p.text())
		}
	}
}

// P11.1: of two points the one with the lesser X is less, of equal X the one with the lesser Y.
func TestCmp(t *testing.T) {
	for _, x := range []struct {
		p, q spot
		want int
	}{
		{at(1, 2), at(2, 2), -1}, // in X alone
		{at(1, 2), at(1, 3), -1}, // in Y alone
		{at(1, 2), at(1, 2), 0},  // in neither
		{at(2, 0), at(1, 9), 1},  // the other way in Y
		{at(-2, 9), at(-1, 0), -1},
		{at(0, -1), at(0, 0), -1},
		{at(0, 0), at(-1, 5), 1},
		{spot{ratio(1, 2), ratio(1, 3)}, spot{ratio(1, 2), ratio(2, 6)}, 0},
		{spot{ratio(1, 3), ratio(5, 1)}, spot{ratio(1, 2), ratio(0, 1)}, -1},
		{spot{ratio(1, 2), ratio(1, 3)}, spot{ratio(1, 2), ratio(1, 4)}, 1},
	} {
		if x.p.point().Cmp(x.q.point()) != x.want || x.q.point().Cmp(x.p.point()) != -x.want {
			t.Fatal(x.p.text(), x.q.text(), x.p.point().Cmp(x.q.point()), x.q.point().Cmp(x.p.point()))
		}
	}
	l := spots()
	made := points(l)
	for i, p := range l {
		for j, q := range l {
			if got := made[i].Cmp(made[j]); got != p.order(q) {
				t.Fatalf("%s and %s: %d, want %d", p.text(), q.text(), got, p.order(q))
			}
		}
	}
	if (plane.Pt{}).Cmp(plane.Grid(api.Pt{})) != 0 {
		t.Fatal("the zero value isn't 0 0")
	}
}

// tells asks for Cross, Dot and Side of three points.
func tells(t *testing.T, a, b, c spot, cross, dot *big.Rat) {
	t.Helper()
	what := a.text() + ", " + b.text() + ", " + c.text()
	p, q, r := a.point(), b.point(), c.point()
	isNumber(t, "Cross "+what, plane.Cross(p, q, r), cross)
	isNumber(t, "Dot "+what, plane.Dot(p, q, r), dot)
	if got := plane.Side(p, q, r); got != cross.Sign() {
		t.Fatalf("Side %s: %d, want %d", what, got, cross.Sign())
	}
}

// P11.1: Cross, Dot and Side of three points, written out.
func TestThreePoints(t *testing.T) {
	for _, x := range []struct{ l [8]int64 }{ // a, b, c; the cross and the dot
		{[8]int64{0, 0, 2, 0, 0, 3, 6, 0}},  // left
		{[8]int64{0, 0, 0, 3, 2, 0, -6, 0}}, // right
		{[8]int64{0, 0, 1, 0, 5, 1, 1, 5}},
		{[8]int64{1, 1, 2, 1, 3, 5, 4, 2}},
		{[8]int64{-1, -2, -4, -6, 3, 0, 10, -20}},
		{[8]int64{0, 0, 2, 1, -4, -2, 0, -10}}, // on one line, ahead of a
		{[8]int64{0, 0, 4, 2, 2, 1, 0, 10}},    // between
		{[8]int64{0, 0, 2, 1, 6, 3, 0, 15}},    // beyond b
		{[8]int64{5, 7, 5, 7, 9, 9, 0, 0}},     // a is b
		{[8]int64{5, 7, 9, 9, 5, 7, 0, 0}},     // a is c
		{[8]int64{5, 7, 9, 9, 9, 9, 0, 20}},    // b is c
		{[8]int64{5, 7, 5, 7, 5, 7, 0, 0}},     // one point
		{[8]int64{3, 0, 3, 5, 3, -9, 0, -45}},  // upright
		{[8]int64{3, 0, 3, 5, 2, 1, 5, 5}},
		{[8]int64{0, 4, 7, 4, 9, 4, 0, 63}}, // level
		{[8]int64{0, 4, 7, 4, 9, 3, -7, 63}},
	} {
		l := row(x.l[:6]...)
		tells(t, l[0], l[1], l[2], ratio(x.l[6], 1), ratio(x.l[7], 1))
	}
	half := spot{ratio(1, 2), ratio(1, 3)}
	tells(t, at(0, 0), half, spot{ratio(-2, 5), ratio(3, 4)}, ratio(61, 120), ratio(1, 20))
	tells(t, half, spot{ratio(5, 2), ratio(1, 3)}, spot{ratio(0, 1), ratio(5, 6)}, ratio(1, 1), ratio(-1, 1))
	wide := power(50)
	tells(t, at(0, 0), spot{wide, sum(wide, ratio(1, 1))}, spot{less(wide, ratio(1, 1)), wide}, ratio(1, 1), times(times(wide, wide), ratio(2, 1)))
}

// P11.1: Cross, Dot and Side by another reckoning, of small points, of long and broken ones.
func TestThreePointsMany(t *testing.T) {
	try := func(l []spot) {
		made := points(l)
		for i, a := range l {
			for j, b := range l {
				for k, c := range l {
					cross, dot := b.minus(a).cross(c.minus(a)), b.minus(a).dot(c.minus(a))
					p, q, r := made[i], made[j], made[k]
					if plane.Cross(p, q, r).Text() != cross.RatString() || plane.Dot(p, q, r).Text() != dot.RatString() || plane.Side(p, q, r) != cross.Sign() {
						t.Fatal(a.text(), b.text(), c.text())
					}
				}
			}
		}
	}
	try(small(3))
	try(few(spots(), 17))
	c := chain(88172645463325252)
	for range 6 {
		try(slices.Concat(c.row(4, 5, 1), c.row(6, 1000, 30)))
	}
}

// P11.1: Side tells a point from one that lies all but on the line.
func TestSideClose(t *testing.T) {
	w := way{spot{power(40), ratio(-1, 3)}, spot{ratio(1, 7), power(41)}}
	tiny := over(ratio(1, 1), power(200))
	for _, part := range []*big.Rat{ratio(-5, 1), ratio(0, 1), ratio(2, 9), ratio(1, 1), power(30)} {
		p := w.along(part)
		for _, k := range []int64{-1, 0, 1} {
			q := p.plus(spot{times(tiny, ratio(-k, 1)), new(big.Rat)}) // the way goes up, so left is where X is less
			if got := plane.Side(w.a.point(), w.b.point(), q.point()); got != int(k) {
				t.Fatalf("Side %s: %d, want %d", part.RatString(), got, k)
			}
		}
	}
}
