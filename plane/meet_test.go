package plane_test

import (
	"math/big"
	"testing"

	"pellicle/plane"
)

// meets asks for what two segments have in common, in both orders, each told from both ends.
func meets(t *testing.T, s, u way, want []spot) {
	t.Helper()
	for _, w := range []way{s, s.back()} {
		for _, v := range []way{u, u.back()} {
			isList(t, "Meet of "+w.text()+" and "+v.text(), plane.Meet(w.seg(), v.seg()), want)
			isList(t, "Meet of "+v.text()+" and "+w.text(), plane.Meet(v.seg(), w.seg()), want)
		}
	}
}

// rising gives the points, the least one first.
func rising(l []spot) []spot {
	if len(l) == 2 && l[0].order(l[1]) > 0 {
		return []spot{l[1], l[0]}
	}
	return l
}

// P11.2: what segments have in common, written out, and the same seen otherwise.
func TestMeet(t *testing.T) {
	for _, x := range []struct {
		what string
		s, u way
		want []spot
	}{
		{"cross within both", from(0, 0, 4, 4), from(0, 4, 4, 0), row(2, 2)},
		{"cross at a broken point", from(0, 0, 3, 1), from(0, 1, 1, 0), []spot{{ratio(3, 4), ratio(1, 4)}}},
		{"cross below 0", from(-5, -1, 1, -3), from(-3, -5, -2, 4), []spot{{ratio(-37, 14), ratio(-25, 14)}}},
		{"touch at an end within the other", from(0, 0, 4, 0), from(2, 0, 2, 5), row(2, 0)},
		{"touch at an end within a slanted one", from(0, 0, 6, 3), from(4, 2, 5, 9), row(4, 2)},
		{"touch at an end of both", from(0, 0, 1, 0), from(1, 0, 2, 5), row(1, 0)},
		{"touch at an end of both, sharply", from(0, 0, 9, 1), from(0, 0, 9, 2), row(0, 0)},
		{"upright and level cross", from(2, -1, 2, 5), from(0, 3, 7, 3), row(2, 3)},
		{"upright and level apart", from(2, -1, 2, 5), from(0, 6, 7, 6), nil},
		{"upright and level, a corner", from(2, 0, 2, 5), from(2, 5, 9, 5), row(2, 5)},
		{"lines cross beyond one", from(0, 0, 1, 1), from(0, 4, 4, 0), nil},
		{"lines cross beyond both", from(0, 0, 1, 1), from(0, 4, 1, 3), nil},
		{"one ends just short of the other", from(0, 0, 1000, 1), from(500, 1, 500, 9), nil},
		{"one ends just behind the other", from(0, 0, 1000, 1), from(500, 0, 500, 9), []spot{{ratio(500, 1), ratio(1, 2)}}},
		{"level, parallel", from(0, 0, 1, 0), from(0, 1, 1, 1), nil},
		{"upright, parallel", from(0, 0, 0, 3), from(1, 0, 1, 3), nil},
		{"slanted, parallel", from(0, 0, 4, 2), from(0, 1, 4, 3), nil},
		{"on one line apart", from(0, 0, 1, 0), from(2, 0, 3, 0), nil},
		{"on an upright line apart", from(0, 0, 0, 1), from(0, 2, 0, 3), nil},
		{"on one line, touching at one end", from(0, 0, 2, 1), from(2, 1, 6, 3), row(2, 1)},
		{"upright, touching at one end", from(5, 0, 5, 2), from(5, 2, 5, 3), row(5, 2)},
		{"overlapping in part", from(0, 0, 4, 0), from(1, 0, 9, 0), row(1, 0, 4, 0)},
		{"upright, overlapping in part", from(0, 0, 0, 5), from(0, 2, 0, 9), row(0, 2, 0, 5)},
		{"falling, overlapping in part", from(0, 9, 6, 0), from(4, 3, 8, -3), row(4, 3, 6, 0)},
		{"one within the other", from(4, 4, 0, 0), from(1, 1, 2, 2), row(1, 1, 2, 2)},
		{"one within the other, from the same end", from(0, 0, 4, 2), from(0, 0, 2, 1), row(0, 0, 2, 1)},
		{"the same", from(1, 5, 7, 2), from(1, 5, 7, 2), row(1, 5, 7, 2)},
		{"one point within", from(1, 1, 1, 1), from(0, 0, 2, 2), row(1, 1)},
		{"one point at an end", from(2, 2, 2, 2), from(0, 0, 2, 2), row(2, 2)},
		{"one point on the line, beyond", from(3, 3, 3, 3), from(0, 0, 2, 2), nil},
		{"one point beside", from(1, 2, 1, 2), from(0, 0, 2, 2), nil},
		{"one point beside the line, between the ends in X", from(1, 0, 1, 0), from(0, 0, 2, 2), nil},
		{"one point, upright", from(0, 1, 0, 1), from(0, 0, 0, 2), row(0, 1)},
		{"one point beyond, upright", from(0, 3, 0, 3), from(0, 0, 0, 2), nil},
		{"two points, the same", from(4, -4, 4, -4), from(4, -4, 4, -4), row(4, -4)},
		{"two points, unlike in X", from(4, -4, 4, -4), from(5, -4, 5, -4), nil},
		{"two points, unlike in Y", from(4, -4, 4, -4), from(4, -3, 4, -3), nil},
		{"at 0", from(0, 0, 0, 0), from(-3, -3, 5, 5), row(0, 0)},
	} {
		t.Run(x.what, func(t *testing.T) {
			for _, v := range views() {
				meets(t, v.way(x.s), v.way(x.u), rising(v.row(x.want)))
			}
		})
	}
}

// P11.2: the zero value of a segment is one point, 0 0.
func TestZeroSegments(t *testing.T) {
	isList(t, "Meet", plane.Meet(plane.Seg{}, plane.Seg{}), row(0, 0))
	isList(t, "Meet", plane.Meet(plane.Seg{}, from(-1, -2, 1, 2).seg()), row(0, 0))
	isList(t, "Meet", plane.Meet(from(-1, -2, 1, 3).seg(), plane.Seg{}), nil)
	if !plane.On(plane.Seg{}, plane.Pt{}) || plane.On(plane.Seg{}, at(0, 1).point()) {
		t.Fatal("On")
	}
}

// P11.2: Meet by another reckoning, of all segments of a small grid, and of others.
func TestMeetMany(t *testing.T) {
	all := waysOf(small(3))
	for _, s := range all {
		for _, u := range all {
			isList(t, "Meet of "+s.text()+" and "+u.text(), plane.Meet(s.seg(), u.seg()), meeting(s, u))
		}
	}
	c := chain(123456789)
	crossed := 0
	for i := range 3000 {
		d := int64(1 + i%4)
		s, u := c.way(6, d), c.way(6, d)
		want := meeting(s, u)
		crossed += len(want)
		meets(t, s, u, want)
	}
	if crossed < 500 {
		t.Fatal("too few meet:", crossed)
	}
}

// P11.2: Meet of segments that lie on one line, in all ways in which their ends can stand, of broken and long coordinates.
func TestMeetAlong(t *testing.T) {
	for _, w := range []way{from(0, 0, 1, 0), from(0, 0, 0, 1), from(5, 7, 2, 9), {spot{power(40), ratio(1, 3)}, spot{ratio(-2, 7), power(45)}}} {
		for i := range int64(4 * 4 * 4 * 4) {
			at := func(k int64) spot { return w.along(ratio(k%4, 3)) }
			s, u := way{at(i), at(i / 4)}, way{at(i / 16), at(i / 64)}
			meets(t, s, u, meeting(s, u))
		}
	}
}

// P11.2: where one segment ends on another one, all but reaches it, or goes on behind it by as little.
func TestMeetClose(t *testing.T) {
	w := way{spot{power(40), ratio(-1, 3)}, spot{ratio(1, 7), power(41)}}
	tiny := spot{over(ratio(-1, 1), power(200)), new(big.Rat)} // goes to w's left, as w goes up
	for _, k := range []int64{1, 5, 9} {
		p := w.along(ratio(k, 10))
		far := p.plus(spot{ratio(-90, 1), ratio(k, 3)})
		meets(t, w, way{far, p}, []spot{p})
		meets(t, w, way{far, p.plus(tiny)}, nil)
		over := way{far, p.minus(tiny)}
		meets(t, w, over, meeting(w, over))
		if len(meeting(w, over)) != 1 {
			t.Fatal("the test is wrong")
		}
	}
	end := w.b.plus(w.dir().times(over(ratio(1, 1), power(90))))
	meets(t, w, way{w.b, end}, []spot{w.b})
	meets(t, w, way{end, end.plus(at(3, 3))}, nil)
	meets(t, way{w.a, end}, way{w.b, end}, rising([]spot{w.b, end}))
}

// P11.2: On tells the points of a segment from all others, written out, and the same seen otherwise.
func TestOn(t *testing.T) {
	for _, x := range []struct {
		s    way
		p    spot
		want bool
	}{
		{from(0, 0, 4, 2), at(0, 0), true},
		{from(0, 0, 4, 2), at(4, 2), true},
		{from(0, 0, 4, 2), at(2, 1), true},
		{from(0, 0, 4, 2), spot{ratio(1, 1), ratio(1, 2)}, true},
		{from(0, 0, 4, 2), at(6, 3), false},   // beyond
		{from(0, 0, 4, 2), at(-2, -1), false}, // ahead
		{from(0, 0, 4, 2), at(2, 2), false},   // left
		{from(0, 0, 4, 2), at(3, 1), false},   // right
		{from(0, 0, 0, 4), at(0, 3), true},    // upright
		{from(0, 0, 0, 4), at(0, 5), false},
		{from(0, 0, 0, 4), at(0, -1), false},
		{from(0, 0, 0, 4), at(1, 2), false},
		{from(0, 3, 5, 3), at(1, 3), true}, // level
		{from(0, 3, 5, 3), at(6, 3), false},
		{from(0, 3, 5, 3), at(1, 4), false},
		{from(0, 5, 5, 0), at(3, 2), true}, // falling
		{from(0, 5, 5, 0), at(5, 5), false},
		{from(2, 3, 2, 3), at(2, 3), true}, // of one point
		{from(2, 3, 2, 3), at(2, 4), false},
		{from(2, 3, 2, 3), at(1, 3), false},
	} {
		for _, v := range views() {
			s, p := v.way(x.s), v.of(x.p)
			if plane.On(s.seg(), p.point()) != x.want || plane.On(s.back().seg(), p.point()) != x.want {
				t.Fatalf("%s, of %s: want %t", p.text(), s.text(), x.want)
			}
		}
	}
}

// P11.2: On by another reckoning.
func TestOnMany(t *testing.T) {
	l := small(4)
	for _, s := range waysOf(l) {
		made := s.seg()
		for _, p := range l {
			if plane.On(made, p.point()) != s.has(p) {
				t.Fatalf("%s, of %s: want %t", p.text(), s.text(), s.has(p))
			}
		}
	}
	c := chain(362436069)
	for range 300 {
		s := c.way(1<<40, 1000)
		for _, part := range []*big.Rat{ratio(-1, 1<<40), ratio(0, 1), ratio(c.within(0, 99), 99), ratio(1, 1), ratio(1<<40+1, 1<<40)} {
			p := s.along(part)
			if plane.On(s.seg(), p.point()) != s.has(p) || plane.On(s.seg(), p.plus(at(0, 1)).point()) {
				t.Fatalf("%s, of %s", p.text(), s.text())
			}
		}
	}
}
