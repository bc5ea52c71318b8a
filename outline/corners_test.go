package outline_test

import (
	"slices"
	"testing"

	"pellicle/api"
)

// shortened gives a path's corners by the words alone: first those that are like the one ahead are left out, then, as long as there are any, those that lie straight on.
func shortened(pts []api.Pt) []api.Pt {
	l := slices.Compact(slices.Clone(pts))
	for i := 1; i+1 < len(l); {
		if !inLine(l[i-1], l[i], l[i+1]) || turnsAt(l, i) {
			i++
			continue
		}
		l = slices.Delete(l, i, i+1)
	}
	return l
}

// turnsAt: does a path whose points ahead and behind lie in line turn back at that point?
func turnsAt(l []api.Pt, i int) bool {
	d, e := between(l[i-1], l[i]), between(l[i], l[i+1])
	return d.x.Cmp(e.x) != 0 || d.y.Cmp(e.y) != 0
}

// answers asks for what the words say of any points.
func answers(t *testing.T, w way) {
	t.Helper()
	l := shortened(w.pts)
	if len(l) < 2 {
		w.fails(t, api.ErrNone)
		return
	}
	for i := 1; i+1 < len(l); i++ {
		if inLine(l[i-1], l[i], l[i+1]) {
			w.fails(t, api.ErrFeature)
			return
		}
	}
	holds(t, w, l)
}

// P9.1: all rows of up to six points of a few that lie in line and beside it.
func TestAllShortRows(t *testing.T) {
	few := row(0, 0, 2, 2, 3, 3, 2, 0)
	rows := [][]api.Pt{nil}
	for i := 0; i < len(rows); i++ {
		answers(t, way{rows[i], 2, 0, 0, 0})
		if len(rows[i]) == 6 {
			continue
		}
		for _, p := range few {
			rows = append(rows, append(slices.Clone(rows[i]), p))
		}
	}
	if len(rows) != 5461 {
		t.Fatal(len(rows))
	}
}

// P9.1: long rows that look like chance, on a small grid, where many points are like the one ahead or lie straight on.
func TestManyRows(t *testing.T) {
	c := chain(362436069)
	for range 3000 {
		p := api.Pt{}
		var l []api.Pt
		d := api.Pt{X: 1}
		for range c.from(1, 12) {
			switch c.from(0, 5) {
			case 0:
				d = api.Pt{X: -d.Y, Y: d.X}
			case 1:
				d = api.Pt{X: d.X - d.Y, Y: d.X + d.Y}
			case 2:
				d = api.Pt{X: d.Y, Y: -d.X}
			}
			p = ahead(p, d, c.from(0, 3))
			l = append(l, p)
		}
		answers(t, way{l, 4, c.from(0, 2), 0, 0})
	}
}

// stuffed gives the path with so many points more: each corner is said again and again, each leg is gone in steps, the points of which are said again too.
func stuffed(corners []api.Pt, again, steps int) []api.Pt {
	var l []api.Pt
	for i, p := range corners {
		for range again + 1 {
			l = append(l, p)
		}
		if i+1 == len(corners) {
			break
		}
		q := corners[i+1]
		for k := range steps {
			for range again + 1 {
				l = append(l, api.Pt{X: p.X + (q.X-p.X)/(steps+1)*(k+1), Y: p.Y + (q.Y-p.Y)/(steps+1)*(k+1)})
			}
		}
	}
	return l
}

// P9.1 and P9.2: points that are like the one ahead, or lie straight on, change nothing: one, several, of both, at the ends too.
func TestPointsThatChangeNothing(t *testing.T) {
	for _, l := range [][]api.Pt{
		row(0, 0, 60, 0),
		row(0, 0, 120, -180),
		row(0, 0, 60, 60, 120, 60, 120, 0),
		row(-60, 0, 0, 60, 0, -60, -60, 0),
		row(7, 9, 67, 369, 7, 9+120),
	} {
		for again := range 4 {
			for _, steps := range []int{0, 1, 2, 3, 4, 5, 9} {
				for _, kind := range []int{0, 1, 2, 4} {
					w, v := way{l, 6, kind, 3, 5}, way{stuffed(l, again, steps), 6, kind, 3, 5}
					alike(t, "more points", v.places(t), w.places(t))
				}
			}
		}
	}
}

// P9.1: a point that lies straight on, or is like the one ahead, alone, at each place of the row.
func TestOnePointMore(t *testing.T) {
	l := row(0, 0, 8, 4, 8, 30, 18, 40, -18, 10, -20, 10)
	want := way{l, 5, 1, 0, 0}.places(t)
	for i, p := range l {
		alike(t, "said again", way{slices.Insert(slices.Clone(l), i, p), 5, 1, 0, 0}.places(t), want)
		if i > 0 {
			q := l[i-1]
			middle := api.Pt{X: (p.X + q.X) / 2, Y: (p.Y + q.Y) / 2}
			alike(t, "the middle", way{slices.Insert(slices.Clone(l), i, middle), 5, 1, 0, 0}.places(t), want)
		}
	}
}

// P9.1: what lies nearly straight on is a corner.
func TestNearlyStraight(t *testing.T) {
	for _, l := range [][]api.Pt{
		row(0, 0, 1000000, 1, 2000000, 1),
		row(low, low, 0, 0, high, high-1),
		row(0, 0, 3, 2, 7, 5),
		row(0, 0, 1, 1, 3, 2),
		row(0, 0, -high, high-1, low, high),
	} {
		if len(shortened(l)) != 3 {
			t.Fatal(l)
		}
		holdsAll(t, l)
	}
}

// P9.1: a point is asked whether it lies straight on from the corner ahead, not only from the point ahead: both come to the same.
func TestStraightFromTheCorner(t *testing.T) {
	l := row(0, 0, 1, 2, 2, 4, 2, 4, 10, 20, 11, 22, 11, 22, 11, 22, 12, 23, 15, 26, 15, 25)
	holds(t, way{l, 3, 1, 0, 0}, row(0, 0, 11, 22, 15, 26, 15, 25))
}
