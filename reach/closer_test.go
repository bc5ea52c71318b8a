package reach_test

import (
	"testing"

	"pellicle/plane"
	"pellicle/reach"
)

// P12.3: whether unlike points are closer than d, written out: the distances for which it is so begin above the one that is told; -1, if it never is.
func TestCloser(t *testing.T) {
	for _, x := range []struct {
		what string
		s, u way
		last int64 // the greatest whole d for which it isn't so
	}{
		{"side by side", from(0, 0, 4, 0), from(0, 3, 4, 3), 3},
		{"beside one another, unlike ways", from(0, 0, 4, 0), from(1, 2, 9, 9), 2},
		{"one after the other, with a corner", from(0, 0, 4, 0), from(4, 0, 4, 9), 0},
		{"corner to corner", from(0, 0, 4, 0), from(7, 4, 9, 9), 5},
		{"a whole root, slanted", from(0, 0, 4, 3), from(-3, 4, 1, 7), 5},
		{"a root that isn't whole", from(0, 0, 1, 0), from(2, 1, 5, 5), 1},
		{"a root just below 3", from(0, 0, 0, 0), from(2, 2, 2, 2), 2},
		{"a root just above 3", from(0, 0, 0, 0), from(1, 3, 1, 3), 3},
		{"a broken square", from(0, 0, 2, 1), from(1, 2, 1, 2), 1},
		{"a square below 1", from(0, 0, 2, 1), from(0, 1, 2, 2), 0},
		{"a broken root", from(0, 0, 9, 0), way{spot{ratio(1, 1), ratio(5, 2)}, at(4, 4)}, 2},
		{"far", from(0, 0, 0, 5), from(1<<40, 2, 1<<40, 3), 1 << 40},
		{"on one line apart", from(0, 0, 1, 0), from(4, 0, 5, 0), 3},
		{"two points", from(0, 0, 0, 0), from(3, 4, 3, 4), 5},
		{"two points, 1 apart", from(0, 0, 0, 0), from(0, 1, 0, 1), 1},
		{"one point and one end", from(1, 1, 1, 1), from(5, 4, 9, 9), 5},
		{"one point and itself", from(1, 1, 1, 1), from(1, 1, 1, 1), -1},
		{"one point and itself, at 0", from(0, 0, 0, 0), from(0, 0, 0, 0), -1},
		{"one point and itself, broken", way{spot{ratio(1, 3), ratio(1, 2)}, spot{ratio(1, 3), ratio(1, 2)}}, way{spot{ratio(1, 3), ratio(1, 2)}, spot{ratio(1, 3), ratio(1, 2)}}, -1},
		{"one point within a long one, whose ends are far", from(0, 0, 0, 0), from(-9000, -90, 9000, 90), 0},
		{"one point at the end of a long one, whose other end is far", from(0, 0, 0, 0), from(0, 0, 9000, 90), 0},
		{"one point at the end of a short one", from(1, 1, 1, 1), from(0, 1, 1, 1), 0},
		{"one point in common, an end of both, the others far", from(0, 0, 4000, 0), from(4000, 0, 4000, 9000), 0},
		{"one point in common, going on straight", from(0, 0, 4000, 0), from(4000, 0, 9000, 0), 0},
		{"one point in common, an end of one", from(-4000, 0, 4000, 0), from(0, 0, 0, 9000), 0},
		{"one point in common, within both, the ends far", from(-4000, 0, 4000, 0), from(0, -9000, 0, 9000), 0},
		{"overlapping on one line, the ends far", from(0, 0, 4000, 0), from(1000, 0, 9000, 0), 0},
		{"one within the other, the ends far", from(0, 0, 9000, 0), from(2000, 0, 5000, 0), 0},
		{"the same", from(0, 0, 4000, 3), from(0, 0, 4000, 3), 0},
		{"the same the other way round", from(0, 0, 4000, 3), from(4000, 3, 0, 0), 0},
		{"the same, short", from(0, 0, 1, 0), from(0, 0, 1, 0), 0},
	} {
		t.Run(x.what, func(t *testing.T) {
			for _, v := range views() {
				s, u := v.way(x.s), v.way(x.u)
				for _, d := range []int{lowest, -1 << 32, -7, -1, 0} {
					closes(t, s, u, d, false)
				}
				if v.n == 0 {
					continue
				}
				for _, d := range []int64{1, 2, x.last, x.last + 1, x.last + 2, 100, 1 << 41} {
					closes(t, s, u, int(d*v.n), x.last >= 0 && d > x.last)
				}
				for _, d := range []int{1 << 62, top} {
					closes(t, s, u, d, x.last >= 0)
				}
			}
		})
	}
}

// P12.3: d from one below the square's root to one above it, of roots whose squares an int can't hold too.
func TestCloserAtTheRoot(t *testing.T) {
	for _, d := range []int64{1, 2, 3, 1000, 1<<31 - 1, 1 << 31, 1 << 32, 1<<32 + 1, 3037000499, 3037000500, 4294967296, 1 << 53, 1<<62 + 1, top - 1} {
		for _, s := range []way{from(-1, 0, 1, 0), from(0, 0, 0, 0)} {
			u := from(0, d, 5, top)
			closes(t, s, u, int(d)-1, false)
			closes(t, s, u, int(d), false)
			closes(t, s, u, int(d)+1, true)
			just := way{spot{ratio(0, 1), less(ratio(d, 1), over(ratio(1, 1), power(60)))}, at(5, top)}
			closes(t, s, just, int(d)-1, false)
			closes(t, s, just, int(d), true)
		}
	}
}

// P12.3: by another reckoning, that shows two points where there are such ones; of all segments of a small grid, and of others.
func TestCloserMany(t *testing.T) {
	holds := func(s, u way, d int64) {
		p, q, want := unlike(s, u, d)
		if want {
			shown(t, s, u, p, q, d)
		}
		closes(t, s, u, int(d), want)
	}
	all := waysOf(small(3))
	for i, s := range all {
		for _, u := range all[:i+1] {
			holds(s, u, 1)
			holds(s, u, 2)
		}
	}
	for i, x := range fours() {
		for d := range int64(6) {
			holds(x[0], x[1], d+int64(i%5))
		}
	}
}

// shown sees to it that p is of s, and q another point of u, and that their square is below d d.
func shown(t *testing.T, s, u way, p, q spot, d int64) {
	t.Helper()
	square := p.square(q)
	if !plane.On(s.seg(), p.point()) || !plane.On(u.seg(), q.point()) || square.Sign() == 0 || square.Cmp(ratio(d*d, 1)) >= 0 {
		t.Fatal("the test is wrong:", short(s.text()), short(u.text()), d)
	}
}

// P12.3: what is closer stays so by a greater d, and it is closer just if Least is below d d and not both are one point, the same.
func TestCloserStays(t *testing.T) {
	for _, x := range fours() {
		s, u := x[0].seg(), x[1].seg()
		was := false
		for d := -2; d < 20; d++ {
			is := reach.Closer(s, u, d)
			if was && !is {
				t.Fatal(x[0].text(), x[1].text(), d)
			}
			was = is
			below := d > 0 && reach.Least(s, u).Cmp(rational(ratio(int64(d*d), 1))) < 0
			if is != (below && reach.Most(s, u).Sign() > 0) {
				t.Fatal(x[0].text(), x[1].text(), d)
			}
		}
	}
}
