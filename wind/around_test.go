package wind_test

import (
	"testing"

	"pellicle/api"
	"pellicle/plane"
	"pellicle/wind"
)

// ask is a point, and how often a row goes around it; on says that it lies on the row.
type ask struct {
	p  spot
	n  int
	on bool
}

// off are points off a row which it goes around that often.
func off(n int, l ...int64) []ask {
	var out []ask
	for _, p := range row(l...) {
		out = append(out, ask{p, n, false})
	}
	return out
}

// on are points on a row.
func on(l ...int64) []ask {
	var out []ask
	for _, p := range row(l...) {
		out = append(out, ask{p, 0, true})
	}
	return out
}

// part is a point of broken coordinates off a row.
func part(n int, x, y, d int64) []ask { return []ask{{spot{ratio(x, d), ratio(y, d)}, n, false}} }

// partOn is such a one on a row.
func partOn(x, y, d int64) []ask { return []ask{{spot{ratio(x, d), ratio(y, d)}, 0, true}} }

// asking are a row and what is asked of it.
type asking struct {
	what string
	l    []spot
	asks [][]ask
}

// flatRows are rows that go around nothing.
func flatRows() []asking {
	return []asking{
		{"no point", nil, [][]ask{off(0, 0, 0, 3, -4), part(0, 1, 2, 3)}},
		{"one point", row(3, 4), [][]ask{on(3, 4), off(0, 0, 0, 3, 5, 3, 3, 2, 4, 4, 4), part(0, 7, 8, 2), part(0, 6, 9, 2)}},
		{"points that are all the same", row(3, 4, 3, 4, 3, 4), [][]ask{on(3, 4), off(0, 4, 3, 3, 5, 3, 3, 2, 4, 4, 4)}},
		{"two points", row(0, 0, 4, 2), [][]ask{
			on(0, 0, 4, 2, 2, 1), partOn(2, 1, 2), partOn(4, 2, 3),
			off(0, -2, -1, 6, 3, 1, 0, 1, 1, 3, 1, 3, 2, 0, 2, 4, 0, 5, 2, -1, 0, 0, 1, 4, 3), part(0, 3, 1, 3),
		}},
		{"two points, level", row(0, 0, 4, 0), [][]ask{on(0, 0, 1, 0, 3, 0, 4, 0), partOn(1, 0, 9), off(0, -1, 0, 5, 0, 2, 1, 2, -1)}},
		{"there and back along one way", row(0, 0, 9, 3, 3, 1, 6, 2), [][]ask{on(0, 0, 3, 1, 6, 2, 9, 3), off(0, 12, 4, -3, -1, 3, 2, 3, 0, 6, 1, 0, 1, -5, 1, -5, 2)}},
		{"there and back around a corner", row(0, 0, 4, 0, 4, 4, 4, 0), [][]ask{on(0, 0, 2, 0, 4, 0, 4, 2, 4, 4), off(0, 2, 2, 1, 1, 5, 0, 4, 5, 5, 2, 0, 4, 0, 2, 4, -1)}},
		{"once around each way", append(row(0, 0, 4, 0, 4, 4, 0, 4), row(0, 0, 0, 4, 4, 4, 4, 0)...), [][]ask{on(0, 0, 2, 0, 4, 4, 0, 1), off(0, 2, 2, 1, 3, 5, 5, -1, 4, 4, 5)}},
	}
}

// simpleRows are rows that go around once and don't cross themselves.
func simpleRows() []asking {
	return []asking{
		{"a square", row(0, 0, 4, 0, 4, 4, 0, 4), [][]ask{
			off(1, 1, 1, 2, 2, 3, 1, 1, 3), part(1, 1, 2, 3), part(1, 11, 11, 3),
			on(0, 0, 4, 0, 4, 4, 0, 4, 2, 0, 4, 1, 3, 4, 0, 2), partOn(1, 0, 3), partOn(0, 7, 2), partOn(12, 11, 3), partOn(35, 36, 9),
			off(0, 5, 0, -1, 0, 0, 5, 0, -1, 5, 4, -1, 4, 4, 5, 4, -1),
			off(0, 5, 2, -1, 2, 2, 5, 2, -1, 5, 5, -1, -1, 5, -1, -1, 5), part(0, 13, 6, 3), part(0, -1, 6, 3), part(0, 6, -1, 3), part(0, 6, 13, 3),
		}},
		{"a square, told with points on its sides and some twice", row(0, 0, 2, 0, 2, 0, 4, 0, 4, 4, 4, 4, 4, 4, 3, 4, 1, 4, 0, 4, 0, 2), [][]ask{
			off(1, 1, 2, 2, 2, 3, 3, 2, 1), on(2, 0, 3, 4, 0, 2, 0, 4), off(0, 5, 2, -1, 2, 2, 5, 2, -1, 5, 4, -1, 0),
		}},
		{"a square on a corner", row(2, 0, 4, 2, 2, 4, 0, 2), [][]ask{
			off(1, 2, 2, 1, 2, 3, 2, 2, 1, 2, 3), part(1, 3, 5, 2),
			off(0, 5, 2, -1, 2, 2, 5, 2, -1),
			off(0, -1, 0, 0, 0, 4, 0, -1, 4, 0, 4, 4, 4, 5, 4, 5, 0),
			on(2, 0, 3, 1, 4, 2, 0, 2, 1, 3), partOn(7, 3, 2), off(0, 6, 4, 5, 3, -1, 3, 1, -1),
		}},
		{"a corner inward from above", row(0, 0, 8, 0, 8, 4, 4, 2, 0, 4), [][]ask{
			off(1, 2, 2, 6, 2, 1, 3, 7, 3, 4, 1), off(0, 4, 3, 3, 3, 5, 4, -1, 2, 9, 2, 4, 4), on(4, 2, 2, 3, 6, 3, 8, 2),
		}},
		{"a corner inward from below", row(0, 0, 4, 2, 8, 0, 8, 4, 0, 4), [][]ask{
			off(1, 2, 2, 6, 2, 1, 1, 7, 1, 4, 3), off(0, 4, 1, 3, 1, 5, 0, -1, 2, 9, 2, 4, 0), on(4, 2, 2, 1, 6, 1, 8, 2),
		}},
		{"a corner inward from the side", row(0, 0, 4, 0, 2, 4, 4, 8, 0, 8), [][]ask{
			off(1, 1, 4, 1, 2, 1, 6, 3, 1, 3, 7), off(0, 3, 4, 4, 4, -1, 4, 3, 3, 5, 0), on(2, 4, 0, 4, 3, 2),
		}},
		{"corners that go on, and come back", row(0, 0, 3, 0, 6, 2, 5, 4, 6, 6, 3, 8, 0, 8, 1, 4), [][]ask{
			off(1, 2, 4, 3, 4, 4, 2, 1, 2, 3, 6, 1, 6, 4, 4), off(0, 0, 4, 6, 4, 7, 2, -1, 2, 7, 6, -1, 6, -1, 0, 7, 8, 5, 0, 5, 8), on(1, 4, 5, 4, 6, 2, 3, 0),
		}},
		{"a level way down into it", row(0, 0, 8, 0, 8, 6, 5, 6, 5, 3, 3, 3, 3, 6, 0, 6), [][]ask{
			off(1, 1, 3, 2, 3, 6, 3, 7, 3, 4, 2, 1, 5), off(0, 4, 4, 4, 6, -1, 3, 9, 3, -1, 6, 9, 6), on(4, 3, 3, 3, 5, 3, 3, 4, 1, 6, 7, 6),
		}},
		{"a level way up into it", row(0, 0, 3, 0, 3, 3, 5, 3, 5, 0, 8, 0, 8, 6, 0, 6), [][]ask{
			off(1, 1, 3, 2, 3, 6, 3, 7, 3, 4, 4, 1, 1), off(0, 4, 2, 4, 0, -1, 3, 9, 3, -1, 0, 9, 0), on(4, 3, 3, 3, 5, 3, 3, 2, 1, 0, 7, 0),
		}},
		{"stairs", row(0, 0, 6, 0, 6, 2, 4, 2, 4, 4, 2, 4, 2, 6, 0, 6), [][]ask{
			off(1, 1, 2, 3, 2, 1, 4, 1, 1, 5, 1), off(0, -1, 2, 7, 2, -1, 4, 5, 4, 3, 6, -1, 6, 5, 3, 3, 5), on(5, 2, 4, 2, 3, 4, 2, 4, 2, 5, 1, 6),
		}},
		{"a triangle of broken cuts", row(0, 0, 3, 1, 1, 2), [][]ask{
			off(1, 1, 1), part(1, 6, 3, 4), part(1, 1, 1, 2), partOn(6, 7, 4), partOn(3, 1, 3), partOn(1, 2, 2), part(0, 4, 1, 4), part(1, 4, 3, 3), part(0, 8, 1, 3), off(0, 2, 2, 0, 1, 4, 1, -1, 1, 2, 0, 0, 2),
		}},
		{"a thread that sticks out of a square", row(0, 0, 4, 0, 9, -3, 4, 0, 4, 4, 0, 4), [][]ask{
			off(1, 2, 2, 1, 3), on(9, -3, 4, 0), off(0, 5, 0, 10, -3, 2, -3, 6, -1, 7, -1), partOn(13, -3, 2),
		}},
	}
}

// crossedRows are rows that go around several times, or that cross themselves.
func crossedRows() []asking {
	square := row(0, 0, 4, 0, 4, 4, 0, 4)
	return []asking{
		{"twice around a square", again(square, 2), [][]ask{off(2, 1, 1, 2, 2), on(0, 0, 4, 2), off(0, 5, 2, -1, 4, 4, 5)}},
		{"three times around a square", again(square, 3), [][]ask{off(3, 1, 1, 2, 2), on(0, 0, 4, 2), off(0, 5, 2, -1, 4, 4, 5)}},
		{"a hundred times around it, with the clock", again(back(square), 100), [][]ask{off(-100, 1, 1, 2, 2), on(0, 0, 4, 2), off(0, 5, 2, -1, 4, 4, 5)}},
		{"once around a square and twice back", append(again(back(square), 2), row(0, 4, 0, 0, 4, 0, 4, 4)...), [][]ask{off(-1, 1, 1, 2, 2), on(0, 0, 4, 2), off(0, 5, 2, -1, 4, 4, 5)}},
		{"a hole, as it goes around inside the other way", row(0, 0, 10, 0, 10, 10, 0, 10, 0, 0, 3, 3, 3, 7, 7, 7, 7, 3, 3, 3), [][]ask{
			off(1, 1, 5, 5, 1, 9, 5, 5, 9, 8, 8, 1, 3, 8, 7, 1, 7, 2, 1), off(0, 5, 5, 4, 4, 6, 4, 11, 5, -1, 3, 11, 7, -1, 0), on(1, 1, 2, 2, 3, 3, 3, 5, 7, 7, 0, 5),
		}},
		{"no hole, as it goes around inside the same way", row(0, 0, 10, 0, 10, 10, 0, 10, 0, 0, 3, 3, 7, 3, 7, 7, 3, 7, 3, 3), [][]ask{
			off(1, 1, 5, 5, 1, 9, 5, 5, 9, 8, 8, 1, 3, 8, 7), off(2, 5, 5, 4, 4, 6, 4), off(0, 11, 5, -1, 3, 11, 7), on(1, 1, 2, 2, 3, 3, 3, 5, 7, 7, 0, 5),
		}},
		{"inward and around once more, and out over itself", row(0, 0, 10, 0, 10, 10, 0, 10, 0, 2, 6, 2, 6, 6, 2, 6, 2, 0), [][]ask{
			off(1, 5, 1, 9, 5, 8, 6, 1, 7, 1, 3, 1, 6), off(2, 4, 4, 3, 5), off(0, 1, 1, -1, 1, -1, 2, -1, 6, 11, 6, 11, 2), on(2, 2, 2, 6, 6, 2, 2, 1, 1, 0, 1, 2),
		}},
		{"inward and around an empty middle", row(0, 0, 10, 0, 10, 10, 0, 10, 0, 4, 3, 4, 3, 7, 7, 7, 7, 3, 0, 3), [][]ask{
			off(1, 1, 1, 5, 1, 9, 5, 5, 9, 1, 7, 8, 4, 8, 3), off(0, 5, 5, 4, 4, 6, 4, -1, 3, 11, 4), part(0, 2, 7, 2), on(3, 4, 7, 3, 1, 3, 1, 4, 0, 5),
		}},
		{"an eight", row(0, 0, 4, 4, 4, 0, 0, 4), [][]ask{
			off(1, 1, 2), off(-1, 3, 2), on(2, 2, 1, 1, 3, 1, 4, 2), off(0, 2, 1, 2, 3, 5, 2, -1, 2, 2, 0, 2, 4, 5, 4, -1, 0), part(1, 1, 4, 2), part(-1, 5, 4, 2),
		}},
		{"a star", row(0, 3, -2, -3, 3, 1, -3, 1, 2, -3), [][]ask{
			off(2, 0, 0, 0, -1), off(1, 0, 2, 1, -2, -1, -2), part(1, 3, -4, 2), part(1, -3, 0, 2), off(0, -2, 0, 2, 0, 0, -2, 2, 2, -2, 2, 3, 0, -3, 3, 4, 1, -4, 1, 0, -3, 3, -3), on(0, 1, 0, 3, 3, 1, 1, 0), partOn(-7, 0, 4),
		}},
		{"a star with the clock", back(row(0, 3, -2, -3, 3, 1, -3, 1, 2, -3)), [][]ask{
			off(-2, 0, 0, 0, -1), off(-1, 0, 2, 1, -2, -1, -2), off(0, -2, 0, 2, 0, 0, -2, 2, 2, -2, 2, 3, 0, -3, 3, 4, 1), on(0, 1, 0, 3, 3, 1),
		}},
		{"two squares at a corner", row(0, 0, 2, 0, 2, 2, 4, 2, 4, 4, 2, 4, 2, 2, 0, 2), [][]ask{
			off(1, 1, 1, 3, 3), on(2, 2, 1, 2, 3, 2), off(0, 3, 1, 1, 3, 5, 2, -1, 2, 5, 4, -1, 0, -1, 4, 5, 0),
		}},
		{"a loop outside", row(0, 0, 6, 0, 6, 6, 3, 6, 3, -3, 0, -3), [][]ask{
			off(1, 4, 2, 5, 5), off(-1, 1, -1, 2, -2), off(0, 1, 2, 5, -1, 7, 0, -1, -3, 7, 6), on(3, 3, 3, 0, 3, -3, 0, -2),
		}},
	}
}

// P13.1, P13.3: how often rows on the grid go around points, written out; and the same rows told from elsewhere on, backwards, and twice, and turned, mirrored, moved and made greater.
func TestAround(t *testing.T) {
	for _, x := range append(append(flatRows(), simpleRows()...), crossedRows()...) {
		t.Run(x.what, func(t *testing.T) {
			for _, l := range x.asks {
				for _, a := range l {
					asked(t, x.l, a)
				}
			}
		})
	}
}

// asked asks how often a row goes around a point, however it is told and seen.
func asked(t *testing.T, l []spot, a ask) {
	t.Helper()
	for i := range min(len(l), 12) {
		around(t, starts(l, i), a.p, a.n, a.on)
	}
	around(t, again(l, 2), a.p, 2*a.n, a.on)
	for _, v := range grids() {
		around(t, v.row(l), v.of(a.p), v.around(a.n), a.on)
		around(t, back(v.row(l)), v.of(a.p), -v.around(a.n), a.on)
	}
}

// holds asks of a row and a point what another reckoning tells.
func holds(t *testing.T, l []spot, p spot) {
	t.Helper()
	if lies(l, p) {
		around(t, l, p, 0, true)
	} else {
		around(t, l, p, turns(t, l, p), false)
	}
}

// P13.1: the zero values.
func TestAroundZero(t *testing.T) {
	if n, on := wind.Around(nil, plane.Pt{}); n != 0 || on {
		t.Fatal(n, on)
	}
	if n, on := wind.Around([]api.Pt{}, plane.Pt{}); n != 0 || on {
		t.Fatal(n, on)
	}
	if n, on := wind.Around(make([]api.Pt, 1), plane.Pt{}); n != 0 || !on {
		t.Fatal(n, on)
	}
	if n, on := wind.Around([]api.Pt{{X: -1, Y: -1}, {X: 1, Y: -1}, {Y: 1}}, plane.Pt{}); n != 1 || on {
		t.Fatal(n, on)
	}
}

// P13.1: all rows of up to three points of a small grid, and others of more, about all points at whole and half coordinates in and about it.
func TestAroundSmall(t *testing.T) {
	all, about := small(0, 2, 1), small(-1, 5, 2)
	var l [3]spot
	for i := range 9 * 9 * 9 {
		l[0], l[1], l[2] = all[i%9], all[i/9%9], all[i/81]
		for k := 1 + (i+2)/3%2*2; k <= 3; k++ {
			for _, p := range about {
				holds(t, l[:k], p)
			}
		}
	}
	c := chain(521288629)
	for i := range 300 {
		var l []spot
		for range 4 + i%6 {
			l = append(l, all[c.within(0, 8)])
		}
		for _, p := range about {
			holds(t, l, p)
		}
	}
}

// P13.1: rows that go as they like, about points of whole, broken and long coordinates.
func TestAroundMany(t *testing.T) {
	c := chain(88172645463325252)
	for i := range 300 {
		l := c.row(3+i%17, 9, 1)
		for k := range int64(8) {
			holds(t, l, c.spot(9, 1+k%4))
			side := sidesOf(l)[c.within(0, int64(len(l)-1))]
			holds(t, l, side.along(ratio(c.within(-1, 8), 7)))
			holds(t, l, side.along(ratio(c.within(-1, 3), 2)).plus(spot{ratio(k%3-1, 1), ratio(0, 1)}.times(tiny())))
		}
	}
	for i := range 60 {
		l := c.row(3+i%9, 1<<62, 1)
		for range 6 {
			holds(t, l, c.spot(1<<62, 1<<i))
			holds(t, l, sidesOf(l)[0].along(ratio(c.within(0, 999), 999)))
		}
	}
	long := c.row(3000, 1<<20, 1)
	for range 10 {
		holds(t, long, c.spot(1<<20, 3))
	}
}

// P13.1: a point that lies all but on a row, on either side.
func TestAroundClose(t *testing.T) {
	for _, l := range [][]spot{row(0, 0, 4, 0, 4, 4, 0, 4), row(0, 0, 7, 2, 3, 5), row(2, 0, 4, 2, 2, 4, 0, 2), row(-1<<62, -3, 1<<62, 1, 0, 1<<62)} {
		for _, w := range sidesOf(l) {
			for _, part := range []int64{0, 1, 2, 3, 6} {
				p, by := w.along(ratio(part, 6)), w.dir().quarter().times(over(tiny(), power(60)))
				around(t, l, p, 0, true)
				around(t, l, p.minus(by), 0, false)
				holds(t, l, p.plus(by))
				if part > 0 && part < 6 {
					around(t, l, p.plus(by), 1, false)
				}
			}
		}
	}
}

// P13.1: the greatest and the least coordinates of the grid.
func TestAroundAtTheEnd(t *testing.T) {
	l := row(lowest, lowest, top, lowest, top, top, lowest, top)
	for _, n := range []int64{lowest, lowest + 1, -1, 0, top - 1, top} {
		for _, m := range []int64{lowest, lowest + 1, -1, 0, top - 1, top} {
			edge := n == lowest || n == top || m == lowest || m == top
			if edge {
				around(t, l, at(n, m), 0, true)
			} else {
				around(t, l, at(n, m), 1, false)
			}
			around(t, l, at(n, m).plus(spot{power(30), power(30)}), 0, false)
		}
	}
	thin := row(lowest, lowest, top, top-1, top, top)
	around(t, thin, at(0, 0), 0, true)
	around(t, thin, at(0, -1), 0, false)
	around(t, thin, spot{ratio(0, 1), ratio(-1, 4)}, 1, false)
	for k := range int64(9) {
		holds(t, thin, spot{ratio(k-4, 3), ratio(k*k-9, 5)})
	}
}
