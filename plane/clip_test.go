package plane_test

import (
	"math/big"
	"testing"

	"pellicle/plane"
)

// clips asks for what is left of a segment, told from both ends.
func clips(t *testing.T, s, by way, want []spot) {
	t.Helper()
	isList(t, "Clip of "+s.text()+" by "+by.text(), plane.Clip(s.seg(), by.seg()), want)
	if len(want) == 2 {
		want = []spot{want[1], want[0]}
	}
	isList(t, "Clip of "+s.back().text()+" by "+by.text(), plane.Clip(s.back().seg(), by.seg()), want)
}

// P11.3: what Clip leaves, written out, and the same seen otherwise.
func TestClip(t *testing.T) {
	level, slanted := from(0, 0, 1, 0), from(1, 2, 3, 3)
	for _, x := range []struct {
		what  string
		s, by way
		want  []spot
	}{
		{"crosses the line", from(0, -2, 0, 4), level, row(0, 0, 0, 4)},
		{"crosses it downward", from(5, 3, 7, -3), level, row(5, 3, 6, 0)},
		{"crosses it at a broken point", from(1, -1, 2, 2), level, []spot{{ratio(4, 3), ratio(0, 1)}, at(2, 2)}},
		{"crosses it far from by's ends", from(1000, 3, 1004, -1), level, row(1000, 3, 1003, 0)},
		{"crosses it behind by", from(-9, -1, -9, 2), level, row(-9, 0, -9, 2)},
		{"crosses it at one of by's ends", from(1, 1, 1, -1), level, row(1, 1, 1, 0)},
		{"all left", from(-3, 1, 8, 5), level, row(-3, 1, 8, 5)},
		{"all left, along", from(9, 2, -9, 2), level, row(9, 2, -9, 2)},
		{"all right", from(-3, -1, 8, -5), level, nil},
		{"all right, along", from(9, -2, -9, -2), level, nil},
		{"all right, near the line", from(0, -2, 3, -1), level, nil},
		{"on the line", from(4, 0, 9, 0), level, row(4, 0, 9, 0)},
		{"on the line, the other way", from(9, 0, 4, 0), level, row(9, 0, 4, 0)},
		{"on the line, the same", level, level, row(0, 0, 1, 0)},
		{"ends on the line from the left", from(2, 5, 3, 0), level, row(2, 5, 3, 0)},
		{"ends on the line from the right", from(0, -2, 3, 0), level, row(3, 0)},
		{"begins on the line, to the left", from(3, 0, 2, 5), level, row(3, 0, 2, 5)},
		{"begins on the line, to the right", from(3, 0, 0, -2), level, row(3, 0)},
		{"ends at one of by's ends, from the right", from(4, -4, 0, 0), level, row(0, 0)},
		{"one point, left", from(2, 2, 2, 2), level, row(2, 2)},
		{"one point on the line", from(5, 0, 5, 0), level, row(5, 0)},
		{"one point, right", from(2, -2, 2, -2), level, nil},
		{"by one point", from(-3, 1, 8, -5), from(2, 2, 2, 2), row(-3, 1, 8, -5)},
		{"by one point of its own", from(-3, 1, 8, -5), from(-3, 1, -3, 1), row(-3, 1, 8, -5)},
		{"one point by one point", from(7, 1, 7, 1), from(2, 2, 2, 2), row(7, 1)},
		{"one point by itself", from(7, 1, 7, 1), from(7, 1, 7, 1), row(7, 1)},
		{"crosses a slanted line", from(3, 0, 3, 9), slanted, row(3, 3, 3, 9)},
		{"crosses a slanted line, sharply", from(1, 1, 7, 6), slanted, []spot{{ratio(4, 1), ratio(7, 2)}, at(7, 6)}},
		{"by an upright line", from(-2, 5, 6, 1), from(2, 9, 2, 1), row(2, 3, 6, 1)},
		{"by an upright line, upward", from(-2, 5, 6, 1), from(2, 1, 2, 9), row(-2, 5, 2, 3)},
	} {
		t.Run(x.what, func(t *testing.T) {
			for _, v := range views() {
				by := v.way(x.by)
				if v.grows().Sign() < 0 {
					by = by.back()
				}
				clips(t, v.way(x.s), by, v.row(x.want))
			}
		})
	}
}

// P11.3: the zero value of a segment is one point, 0 0: it cuts nothing off.
func TestClipZero(t *testing.T) {
	isList(t, "Clip", plane.Clip(plane.Seg{}, plane.Seg{}), row(0, 0))
	isList(t, "Clip", plane.Clip(from(1, -1, -1, -1).seg(), plane.Seg{}), row(1, -1, -1, -1))
	isList(t, "Clip", plane.Clip(plane.Seg{}, from(0, 1, 1, 1).seg()), nil)
	isList(t, "Clip", plane.Clip(plane.Seg{}, from(1, 1, 0, 1).seg()), row(0, 0))
}

// P11.3: Clip by another reckoning, of all segments of a small grid, and of others.
func TestClipMany(t *testing.T) {
	all := waysOf(small(3))
	for _, s := range all {
		for _, by := range all {
			isList(t, "Clip of "+s.text()+" by "+by.text(), plane.Clip(s.seg(), by.seg()), clipped(s, by))
		}
	}
	c := chain(521288629)
	for i := range 2000 {
		d := int64(1 + i%5)
		s, by := c.way(9, d), c.way(9, d)
		clips(t, s, by, clipped(s, by))
		clips(t, s, by.back(), clipped(s, by.back()))
	}
}

// P11.3: of a segment's points just those that lie in the closed half are left.
func TestClipLeavesPoints(t *testing.T) {
	c := chain(77777)
	for range 200 {
		s, by := c.way(12, 3), c.way(12, 3)
		l := plane.Clip(s.seg(), by.seg())
		for k := range int64(13) {
			p := s.along(ratio(k, 12))
			left := len(l) > 0 && plane.On(plane.Seg{A: l[0], B: l[len(l)-1]}, p.point())
			if left != inHalf(p, by) {
				t.Fatalf("%s of %s by %s: %t", p.text(), s.text(), by.text(), left)
			}
		}
	}
}

// P11.3: an end that lies all but on the line, on either side.
func TestClipClose(t *testing.T) {
	by := way{spot{power(40), ratio(-1, 3)}, spot{ratio(1, 7), power(41)}}
	tiny := spot{over(ratio(-1, 1), power(200)), new(big.Rat)} // goes to by's left, as by goes up
	for _, k := range []int64{-7, 0, 4, 10, 25} {
		p := by.along(ratio(k, 10))
		left, right := p.plus(spot{ratio(-5, 1), ratio(k, 3)}), p.minus(spot{ratio(-5, 1), ratio(k, 3)})
		clips(t, way{left, p}, by, []spot{left, p})
		clips(t, way{right, p}, by, []spot{p})
		clips(t, way{right, p.minus(tiny)}, by, nil)
		clips(t, way{left, p.plus(tiny)}, by, []spot{left, p.plus(tiny)})
		clips(t, way{left, right}, by, []spot{left, p})
		for _, s := range []way{{right, p.plus(tiny)}, {left, p.minus(tiny)}} {
			if len(clipped(s, by)) != 2 {
				t.Fatal("the test is wrong")
			}
			clips(t, s, by, clipped(s, by))
		}
	}
}
