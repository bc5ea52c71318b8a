package outline_test

import (
	"reflect"
	"slices"
	"testing"

	"pellicle/api"
	"pellicle/frac"
	"pellicle/octant"
	"pellicle/outline"
	"pellicle/zed"
)

// samples are paths of all kinds, of few corners and many.
func samples() []way {
	c := chain(123456789)
	var l []way
	for n := 2; n < 12; n++ {
		for _, kind := range []int{0, 1, 2, 4} {
			l = append(l, way{c.path(n, -20, 20), c.from(1, 30), kind, c.from(-40, 40), c.from(-40, 40)})
			l = append(l, way{c.path(n, -1<<29, 1<<29), c.from(1, high), kind, c.from(-high, high), c.from(-high, high)})
		}
	}
	return append(l,
		way{row(0, 0, 1, 0, 2, 1, 2, 2, 1, 3, 0, 3, -1, 2, -1, 1, 0, 0), 3, 1, 0, 0},
		way{stuffed(row(0, 0, 60, 60, 120, 60), 2, 3), 7, 4, -2, 9})
}

// quarters is the point, turned so often by 90 degrees, and moved.
func quarters(p api.Pt, n int, by api.Pt) api.Pt {
	for range n {
		p = api.Pt{X: -p.Y, Y: p.X}
	}
	return api.Pt{X: p.X + by.X, Y: p.Y + by.Y}
}

// laid gives the path whose points are turned and moved so.
func (w way) laid(n int, by api.Pt) way {
	pts := w.pts
	w.pts = nil
	for _, p := range pts {
		w.pts = append(w.pts, quarters(p, n, by))
	}
	return w
}

// placeLaid gives the place, turned and moved so, in its own field.
func placeLaid(p octant.Place, n int, by api.Pt) octant.Place {
	x, y := p.X, p.Y
	for range n {
		x, y = y.Neg(), x
	}
	k, l := x.Field()
	x, _ = x.Add(of(k, l, ratio(by.X, 1)))
	y, _ = y.Add(of(k, l, ratio(by.Y, 1)))
	return octant.Place{X: x, Y: y}
}

// P9.2: a path whose points are moved, and turned by quarters, has places that are so.
func TestMovedAndTurned(t *testing.T) {
	for _, w := range samples() {
		for n := range 4 {
			for _, by := range []api.Pt{{}, {X: 5, Y: -3}, {X: -1 << 30, Y: 1<<30 + 1}} {
				want := w.places(t)
				for i, p := range want {
					want[i] = placeLaid(p, n, by)
				}
				alike(t, "moved and turned", w.laid(n, by).places(t), want)
			}
		}
	}
}

// P9.2: where a reference lays places by quarters, those of the points lie that it lays so. (Far may tell them in another field.)
func TestLaidByTurns(t *testing.T) {
	one := frac.Whole(zed.Of(1))
	for _, w := range samples() {
		for n := range 4 {
			turn, _ := octant.Make(false, one, 2*n, one, one)
			got := w.laid(n, api.Pt{X: 1, Y: 1}).places(t)
			for i, p := range w.places(t) {
				q, e := turn.Far(p)
				if e != api.OK {
					t.Fatalf("Far: error %d", e)
				}
				if q.X.Floor().Cmp(got[i].X.Floor()) != 0 || q.Y.Floor().Cmp(got[i].Y.Floor()) != 0 {
					t.Fatal("another place")
				}
			}
		}
	}
}

// ownCorners gives, for each place, the corner that it belongs to.
func ownCorners(w way) []api.Pt {
	corners := shortened(w.pts)
	last := len(corners) - 1
	l := slices.Clone(corners)
	if w.kind == 1 {
		l = append(l, corners[last], corners[last], corners[last])
	}
	for i := last; i >= 0; i-- {
		l = append(l, corners[i])
	}
	if w.kind == 1 {
		l = append(l, corners[0], corners[0], corners[0])
	}
	return l
}

// P9.2: with twice the width, and twice as great begin and end, each place is twice as far from its corner.
func TestTwice(t *testing.T) {
	for _, w := range samples() {
		w.width, w.begin, w.end = max(1, w.width/2), w.begin/2, w.end/2
		v := way{w.pts, 2 * w.width, w.kind, 2 * w.begin, 2 * w.end}
		corners, once := ownCorners(w), w.places(t)
		twice := v.places(t)
		if len(corners) != len(once) || len(corners) != len(twice) {
			t.Fatal(len(corners), len(once), len(twice))
		}
		for i, p := range corners {
			m, n := once[i].X.Field()
			short, long := from(t, p, once[i], m, n), from(t, p, twice[i], m, n)
			two := of(m, n, ratio(2, 1))
			x, _ := short.x.Mul(two)
			y, _ := short.y.Mul(two)
			like(t, "x", long.x, x)
			like(t, "y", long.y, y)
		}
	}
}

// P9.3: what is handed in isn't changed, nor the room behind its end, nor beside an error.
func TestHandedInStays(t *testing.T) {
	stays := func(w way, want api.Errno) {
		room := append(slices.Clone(w.pts), row(77, 78, 79, 80, 81, 82)...)
		kept := slices.Clone(room)
		w.pts = room[:len(w.pts)]
		if _, e := w.of(); e != want || !slices.Equal(room, kept) {
			t.Fatalf("%v: error %d, want %d; %v", kept, e, want, room)
		}
	}
	for _, w := range samples() {
		stays(w, api.OK)
		w.kind = 3
		stays(w, api.ErrArg)
	}
	stays(way{row(5, 5, 5, 5), 2, 0, 0, 0}, api.ErrNone)
	stays(way{row(5, 5, 5, 5, 9, 9, 11, 11, 6, 6), 2, 0, 0, 0}, api.ErrFeature)
	stays(way{row(5, 5, high+1, 9), 2, 0, 0, 0}, api.ErrCoord)
}

// P9.3: answers are new memory: to write over one, or over what was handed in, changes no other.
func TestNewMemory(t *testing.T) {
	for _, w := range samples() {
		w.pts = slices.Clone(w.pts)
		first, kept := w.places(t), w.places(t)
		second := w.places(t)
		if !reflect.DeepEqual(first, kept) {
			t.Fatal("another answer")
		}
		for i := range first[:cap(first)] {
			first[:cap(first)][i] = octant.Place{}
		}
		for i := range w.pts {
			w.pts[i] = api.Pt{X: 1 << 20, Y: i}
		}
		if !reflect.DeepEqual(second, kept) {
			t.Fatal("an answer changed")
		}
	}
}

// P1: Of ends, and doesn't panic, at all arguments.
func TestAllCallsEnd(t *testing.T) {
	defer func() {
		if x := recover(); x != nil {
			t.Fatal("panic:", x)
		}
	}()
	heavy := []int{least, least + 1, -1 << 32, low - 1, low, -1, 0, 1, 2, 4, high, high + 1, 1 << 32, most - 1, most}
	var pts []api.Pt
	for i, x := range heavy {
		pts = append(pts, api.Pt{X: x, Y: heavy[(i*4+1)%len(heavy)]})
	}
	ends := row(low, high, high, low, low, low, high, high, -1, 0)
	for _, a := range heavy {
		for _, b := range heavy {
			for _, kind := range heavy {
				outline.Of(pts, a, kind, b, a)
				outline.Of(ends, a, kind, b, a)
				outline.Of(ends[:1], a, kind, a, b)
				outline.Of(nil, a, kind, b, b)
			}
		}
	}
	for range 12 {
		pts = append(pts, pts...)
		outline.Of(pts, 4, 0, 0, 0)
	}
	for i := range 5 {
		for j := range 5 {
			for k := range 5 {
				outline.Of([]api.Pt{ends[i], ends[j], ends[k]}, high, 1, 0, 0)
			}
		}
	}
}
