package reach_test

import (
	"math/big"
	"testing"

	"pellicle/plane"
	"pellicle/reach"
)

// clamped is the part of a way that is nearest to it.
func clamped(part *big.Rat) *big.Rat {
	switch {
	case part.Sign() < 0:
		return ratio(0, 1)
	case part.Cmp(ratio(1, 1)) > 0:
		return ratio(1, 1)
	}
	return part
}

// nearest gives the way's point that is nearest to p.
func (w way) nearest(p spot) spot {
	d := w.dir()
	if d.none() {
		return w.a
	}
	return w.along(clamped(over(d.dot(p.minus(w.a)), d.dot(d))))
}

// crossing gives the point that both ways have, if they aren't parallel and have one.
func crossing(w, v way) (spot, bool) {
	d, e, far := w.dir(), v.dir(), v.a.minus(w.a)
	by := d.cross(e)
	if by.Sign() == 0 {
		return spot{}, false
	}
	here, there := over(far.cross(e), by), over(far.cross(d), by)
	if clamped(here).Cmp(here) != 0 || clamped(there).Cmp(there) != 0 {
		return spot{}, false
	}
	return w.along(here), true
}

// closest gives a point of each way, of which none of w and none of v are nearer to one another.
func closest(w, v way) (p, q spot) {
	if x, ok := crossing(w, v); ok {
		return x, x
	}
	p, q = w.a, v.nearest(w.a)
	for _, l := range [][2]spot{{w.b, v.nearest(w.b)}, {w.nearest(v.a), v.a}, {w.nearest(v.b), v.b}} {
		if l[0].square(l[1]).Cmp(p.square(q)) < 0 {
			p, q = l[0], l[1]
		}
	}
	return p, q
}

// farthest gives the greatest square of two points of both.
func farthest(w, v way) *big.Rat {
	most := new(big.Rat)
	for _, l := range [][2]spot{{w.a, v.a}, {w.b, v.a}, {w.a, v.b}, {w.b, v.b}} {
		if square := l[0].square(l[1]); square.Cmp(most) > 0 {
			most = square
		}
	}
	return most
}

// proven sees to it that p of w and q of v are as near as can be: all of w lies behind p as one looks from p to q, all of v behind q.
func proven(t *testing.T, w, v way, p, q spot) {
	t.Helper()
	look := q.minus(p)
	for _, x := range []spot{w.a, w.b} {
		if x.minus(p).dot(look).Sign() > 0 {
			t.Fatal("the test is wrong:", short(w.text()), short(v.text()))
		}
	}
	for _, x := range []spot{v.a, v.b} {
		if x.minus(q).dot(look).Sign() < 0 {
			t.Fatal("the test is wrong:", short(w.text()), short(v.text()))
		}
	}
	if !plane.On(w.seg(), p.point()) || !plane.On(v.seg(), q.point()) {
		t.Fatal("the test is wrong:", short(w.text()), short(v.text()))
	}
}

// unlike gives a point of each way, not the same one, with a square below d d, if they have such ones.
func unlike(w, v way, d int64) (p, q spot, ok bool) {
	p, q = closest(w, v)
	if d <= 0 || p.square(q).Cmp(times(ratio(d, 1), ratio(d, 1))) >= 0 {
		return spot{}, spot{}, false
	}
	if p.square(q).Sign() > 0 {
		return p, q, true
	}
	for _, x := range []spot{w.a, w.b} {
		if near, ok := toward(p, x); ok {
			return near, q, true
		}
	}
	for _, x := range []spot{v.a, v.b} {
		if near, ok := toward(q, x); ok {
			return p, near, true
		}
	}
	return spot{}, spot{}, false
}

// toward gives a point on the way from p to x, another one if x is, which is less than 1 away from p.
func toward(p, x spot) (spot, bool) {
	square := p.square(x)
	if square.Sign() == 0 {
		return spot{}, false
	}
	parts := new(big.Rat).SetInt(new(big.Int).Add(new(big.Int).Quo(square.Num(), square.Denom()), big.NewInt(2)))
	return way{p, x}.along(over(ratio(1, 1), parts)), true
}

// ordered does something with two ways in both orders, each told from both ends.
func ordered(s, u way, do func(s, u way)) {
	for _, w := range []way{s, s.back()} {
		for _, v := range []way{u, u.back()} {
			do(w, v)
			do(v, w)
		}
	}
}

// reaches asks for the least and the greatest square of two segments, however they are told.
func reaches(t *testing.T, s, u way, least, most *big.Rat) {
	t.Helper()
	ordered(s, u, func(s, u way) {
		isNumber(t, "Least of "+s.text()+" and "+u.text(), reach.Least(s.seg(), u.seg()), least)
		isNumber(t, "Most of "+s.text()+" and "+u.text(), reach.Most(s.seg(), u.seg()), most)
	})
}

// closes asks whether unlike points of two segments are closer than d, however the segments are told.
func closes(t *testing.T, s, u way, d int, want bool) {
	t.Helper()
	ordered(s, u, func(s, u way) {
		if got := reach.Closer(s.seg(), u.seg(), d); got != want {
			t.Fatalf("Closer of %s and %s, %d: %t, want %t", short(s.text()), short(u.text()), d, got, want)
		}
	})
}
