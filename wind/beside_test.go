package wind_test

import (
	"testing"

	"pellicle/api"
	"pellicle/plane"
	"pellicle/wind"
)

// flank is a row, a segment, and how often the row goes around the points beside its middle.
type flank struct {
	what        string
	l           []spot
	s           way
	left, right int
}

// square is the chapter's.
func square() []spot { return row(0, 0, 4, 0, 4, 4, 0, 4) }

// joined is a row that goes through one row and then through another, both of which begin at one point.
func joined(a, b []spot) []spot { return append(append([]spot{}, a...), b...) }

// offFlanks are segments along whose middles no side lies.
func offFlanks() []flank {
	l := square()
	return []flank{
		{"ends that are one point, within", l, from(1, 1, 1, 1), 0, 0},
		{"ends that are one point, outside", l, from(9, 1, 9, 1), 0, 0},
		{"ends that are one point, on a side", l, from(2, 0, 2, 0), 0, 0},
		{"ends that are one point, a corner", l, from(0, 0, 0, 0), 0, 0},
		{"ends that are one point, within twice", again(l, 2), from(1, 1, 1, 1), 0, 0},
		{"ends that are one point, in no row", nil, from(1, 1, 1, 1), 0, 0},
		{"a row of no point", nil, from(0, 0, 4, 0), 0, 0},
		{"a row of one point", row(2, 1), from(0, 0, 4, 0), 0, 0},
		{"a row of one point, the middle", row(2, 0), from(0, 0, 4, 0), 0, 0},
		{"a row of one point, an end", row(4, 0), from(0, 0, 4, 0), 0, 0},
		{"points that are all the same, the middle", row(2, 1, 2, 1, 2, 1), from(0, 0, 4, 2), 0, 0},
		{"a row of two points, beside it", row(0, 1, 4, 1), from(0, 0, 4, 0), 0, 0},
		{"a way within, level", l, from(1, 1, 3, 1), 1, 1},
		{"a way within, upright", l, from(1, 3, 1, 1), 1, 1},
		{"a way within, slanted", l, from(1, 1, 3, 2), 1, 1},
		{"a way within, from corner to corner", l, from(0, 0, 4, 4), 1, 1},
		{"a way within, from a side's middle to a corner", l, from(2, 0, 4, 4), 1, 1},
		{"a way within, at the height of corners", row(2, 0, 4, 2, 2, 4, 0, 2), from(0, 2, 4, 2), 1, 1},
		{"a way within, through a corner inward", row(0, 0, 8, 0, 8, 4, 4, 2, 0, 4), from(3, 2, 0, 2), 1, 1},
		{"a way through, its middle within", l, from(-3, 2, 5, 2), 1, 1},
		{"a way through, its middle outside", l, from(-9, 2, 5, 2), 0, 0},
		{"a way outside, level", l, from(1, 5, 3, 5), 0, 0},
		{"a way outside, upright", l, from(-1, 0, -1, 4), 0, 0},
		{"a way outside, slanted", l, from(0, -3, 7, 0), 0, 0},
		{"a way outside, on the line of a side", l, from(5, 0, 7, 0), 0, 0},
		{"a way outside, on the line of a side, upright", l, from(0, -7, 0, -5), 0, 0},
		{"a way outside that ends at a corner", l, from(4, 0, 6, 0), 0, 0},
		{"a way outside that goes through a side", l, from(7, 1, 3, 1), 0, 0},
		{"within a row with the clock", back(l), from(1, 1, 3, 2), -1, -1},
		{"within a row three times around", again(l, 3), from(1, 1, 2, 3), 3, 3},
		{"in a star's middle", row(0, 3, -2, -3, 3, 1, -3, 1, 2, -3), from(0, 0, 0, -1), 2, 2},
		{"in a hole", row(0, 0, 10, 0, 10, 10, 0, 10, 0, 0, 3, 3, 3, 7, 7, 7, 7, 3, 3, 3), from(4, 4, 6, 5), 0, 0},
		{"one that goes around nothing, there and back beside it", row(0, 0, 4, 0), from(0, 1, 4, 1), 0, 0},
	}
}

// alongFlanks are segments along whose middles sides lie.
func alongFlanks() []flank {
	l := square()
	below := row(0, 0, 0, -4, 4, -4, 4, 0)
	return []flank{
		{"a side", l, from(0, 0, 4, 0), 1, 0},
		{"the other sides", l, from(4, 0, 4, 4), 1, 0},
		{"the side above", l, from(4, 4, 0, 4), 1, 0},
		{"the last side", l, from(0, 4, 0, 0), 1, 0},
		{"a side of a slanted row", row(0, 0, 7, 2, 3, 5), from(0, 0, 7, 2), 1, 0},
		{"another one of it", row(0, 0, 7, 2, 3, 5), from(7, 2, 3, 5), 1, 0},
		{"a piece of a side", l, from(1, 0, 2, 0), 1, 0},
		{"a piece from a side's end", l, from(4, 0, 4, 1), 1, 0},
		{"longer than a side, about its middle", l, from(-2, 0, 6, 0), 1, 0},
		{"longer than a side, about a point near its end", l, from(3, 4, -2, 4), 1, 0},
		{"a side at whose middle the row has a point", row(0, 0, 2, 0, 4, 0, 4, 4, 0, 4), from(0, 0, 4, 0), 1, 0},
		{"a side at whose middle the row has a point twice", row(0, 0, 2, 0, 2, 0, 4, 0, 4, 4, 0, 4), from(0, 0, 4, 0), 1, 0},
		{"a side at whose middle the row goes back a little", row(0, 0, 2, 0, 1, 0, 4, 0, 4, 4, 0, 4), from(0, 0, 4, 0), 1, 0},
		{"a side along which the row goes back, not as far as the middle", row(0, 0, 2, 0, 1, 0, 4, 0, 4, 4, 0, 4), from(0, 0, 6, 0), 1, 0},
		{"within what the row goes three times", row(0, 0, 3, 0, 1, 0, 4, 0, 4, 4, 0, 4), from(0, 0, 4, 0), 1, 0},
		{"a side at whose middle a thread ends that comes along it", row(0, 0, 4, 0, 2, 0, 4, 0, 4, 4, 0, 4), from(0, 0, 4, 0), 1, 0},
		{"a thread's end", row(0, 0, 2, 0), from(0, 0, 4, 0), 0, 0},
		{"a thread's end, slanted", row(0, 0, 2, 3), from(4, 6, 0, 0), 0, 0},
		{"a thread", row(0, 0, 4, 2), from(0, 0, 4, 2), 0, 0},
		{"a thread within a square", row(0, 0, 4, 0, 4, 4, 2, 4, 2, 1, 2, 4, 0, 4), from(2, 1, 2, 4), 1, 1},
		{"a thread out of a square", row(0, 0, 4, 0, 4, 4, 2, 4, 2, 7, 2, 4, 0, 4), from(2, 7, 2, 4), 0, 0},
		{"along which two sides lie, in its direction", again(l, 2), from(0, 0, 4, 0), 2, 0},
		{"along which five sides lie, in its direction", again(l, 5), from(4, 0, 4, 4), 5, 0},
		{"along which two sides lie, against it", again(back(l), 2), from(0, 0, 4, 0), -2, 0},
		{"between two squares, both against the clock", joined(l, below), from(0, 0, 4, 0), 1, 1},
		{"between two squares, one with the clock", row(0, 0, 4, 0, 4, 4, 0, 4, 0, 0, 4, 0, 4, -4, 0, -4), from(0, 0, 4, 0), 1, -1},
		{"between two squares, one twice around", joined(l, joined(below, below)), from(0, 0, 4, 0), 1, 2},
		{"one within the other, with a common side", row(0, 0, 4, 0, 4, 4, 0, 4, 0, 0, 2, 0, 2, 2, 0, 2), from(0, 0, 2, 0), 2, 0},
		{"one within the other, its middle on the longer side alone", row(0, 0, 4, 0, 4, 4, 0, 4, 0, 0, 1, 0, 1, 1, 0, 1), from(0, 0, 4, 0), 1, 0},
		{"a bridge to a hole", row(0, 0, 10, 0, 10, 10, 0, 10, 0, 0, 3, 3, 3, 7, 7, 7, 7, 3, 3, 3), from(0, 0, 3, 3), 1, 1},
		{"a hole's side", row(0, 0, 10, 0, 10, 10, 0, 10, 0, 0, 3, 3, 3, 7, 7, 7, 7, 3, 3, 3), from(3, 3, 3, 7), 1, 0},
		{"an eight's first half", row(0, 0, 4, 4, 4, 0, 0, 4), from(0, 0, 2, 2), 1, 0},
		{"an eight's other half", row(0, 0, 4, 4, 4, 0, 0, 4), from(2, 2, 4, 4), 0, -1},
		{"a star's inner side", row(0, 3, -2, -3, 3, 1, -3, 1, 2, -3), from(-1, 1, 1, 1), 1, 2},
		{"on the line of a side, along another one", row(0, 0, 2, 0, 2, 2, 4, 2, 4, 0, 6, 0, 6, 4, 0, 4), from(4, 0, 6, 0), 1, 0},
		{"on the line of two sides, between them", row(0, 0, 2, 0, 2, 2, 4, 2, 4, 0, 6, 0, 6, 4, 0, 4), from(2, 0, 4, 0), 0, 0},
	}
}

// P13.2: what Beside answers, written out; and the same seen otherwise, of rows with broken and with long coordinates too, of segments and rows told backwards, of rows told from elsewhere on and twice.
func TestBeside(t *testing.T) {
	for _, x := range append(offFlanks(), alongFlanks()...) {
		t.Run(x.what, func(t *testing.T) {
			if !promised(x.l, x.s) {
				t.Fatal("the test is wrong")
			}
			for _, v := range views() {
				left, right := v.beside(x.left, x.right)
				flanks(t, v.row(x.l), v.way(x.s), left, right)
			}
			for i := range x.l {
				besides(t, starts(x.l, i), x.s, x.left, x.right)
			}
		})
	}
}

// flanks asks for what lies beside a segment, told from both ends, of a row told once, twice and backwards.
func flanks(t *testing.T, l []spot, s way, left, right int) {
	t.Helper()
	besides(t, l, s, left, right)
	besides(t, l, s.back(), right, left)
	besides(t, back(l), s, -left, -right)
	besides(t, again(l, 2), s.back(), 2*right, 2*left)
}

// compared asks of a row and a segment what another reckoning tells, if anything is promised; it tells whether it is.
func compared(t *testing.T, l []spot, s way) bool {
	t.Helper()
	if !promised(l, s) {
		wind.Beside(points(l), s.seg())
		return false
	}
	left, right := bothSides(t, l, s)
	besides(t, l, s, left, right)
	besides(t, l, s.back(), right, left)
	return true
}

// P13.2: the zero values.
func TestBesideZero(t *testing.T) {
	l := wind.Grid([]api.Pt{{X: -1, Y: -1}, {X: 1, Y: -1}, {X: 1, Y: 1}, {X: -1, Y: 1}})
	for _, x := range [][]plane.Pt{nil, {}, l, make([]plane.Pt, 3)} {
		if a, b := wind.Beside(x, plane.Seg{}); a != 0 || b != 0 {
			t.Fatal(a, b)
		}
	}
	if a, b := wind.Beside(make([]plane.Pt, 1), from(-1, 0, 1, 0).seg()); a != 0 || b != 0 {
		t.Fatal(a, b)
	}
	if a, b := wind.Beside(l, plane.Seg{B: l[2]}); a != 1 || b != 1 {
		t.Fatal(a, b)
	}
}

// P13.2: all segments of a small grid beside rows of its points, those told in pieces too.
func TestBesideSmall(t *testing.T) {
	all, ends := small(0, 2, 1), small(-1, 5, 2)
	c := chain(362436069)
	held := 0
	for i := range 400 {
		var l []spot
		for range 1 + i%7 {
			l = append(l, all[c.within(0, 8)])
		}
		for _, a := range all {
			s := way{a, ends[c.within(0, 48)]}
			if compared(t, l, s) {
				held++
			}
			compared(t, l, about(a, s.dir()))
		}
		for _, w := range sidesOf(l) {
			if compared(t, l, w) {
				held++
			}
		}
	}
	if held < 1000 {
		t.Fatal("the test is wrong:", held)
	}
}

// P13.2: rows and segments that go as they like, of whole, broken and long coordinates: the row's own sides, pieces of them, ways about their points.
func TestBesideMany(t *testing.T) {
	c := chain(123456789)
	held := 0
	for i := range 200 {
		l := c.row(3+i%12, 9, int64(1+i%3))
		if i%4 == 0 { // threads and sides that lie upon one another
			l = append(l, l[1], l[0], l[1])
		}
		for k := range int64(5) {
			w := sidesOf(l)[c.within(0, int64(len(l)-1))]
			m := w.along(ratio(c.within(0, 6), 6))
			for _, s := range []way{w, about(m, w.dir()), {w.a, m}, about(m, c.spot(9, 2)), {c.spot(9, 1+k), c.spot(9, 1+k)}} {
				if compared(t, l, s) {
					held++
				}
			}
		}
	}
	if held < 2000 {
		t.Fatal("the test is wrong:", held)
	}
	for range 30 {
		l := c.row(7, 1<<60, 1<<40)
		compared(t, l, sidesOf(l)[3])
		compared(t, l, way{c.spot(1<<60, 1<<30), c.spot(1<<60, 1<<30)})
	}
	long := c.row(1500, 1<<30, 5)
	for i := range 4 {
		compared(t, long, sidesOf(long)[i])
	}
}

// P13.2: a middle to which other sides are as near as can be, on either side.
func TestBesideClose(t *testing.T) {
	w := from(-3, 1, 5, 2)
	by := w.dir().quarter().times(over(tiny(), power(60)))
	upper, lower := about(w.middle().plus(by), w.dir()), about(w.middle().minus(by), w.dir())
	sliver := []spot{lower.a, lower.b, upper.b, upper.a}
	flanks(t, sliver, w, 1, 1)
	flanks(t, sliver, upper, 0, 1)
	flanks(t, sliver, lower, 1, 0)
	flanks(t, append([]spot{w.a, w.b}, back(sliver)...), w, 0, -1) // both ends of w lie off the sliver's ends, so the row comes back above it
	edge := []spot{w.a, w.b, upper.b, upper.a}
	flanks(t, edge, w, 1, 0)
	flanks(t, edge, upper, 0, 1)
	needle := []spot{w.middle().plus(by), w.a.plus(at(0, 9)), w.b.plus(at(0, 9))} // its point stands just left of the middle
	flanks(t, needle, w, 0, 0)
	flanks(t, needle, upper.back(), 0, 0)
	pierced := []spot{w.middle().minus(by), w.a.plus(at(0, 9)), w.b.plus(at(0, 9))}
	flanks(t, pierced, w, -1, -1)
	flanks(t, needle, about(w.middle().plus(by.times(ratio(2, 1))), w.dir()), -1, -1)
	for _, l := range [][]spot{sliver, edge, needle, pierced} {
		for _, s := range []way{w, upper, lower} {
			compared(t, l, s)
		}
	}
}

// P13.2: of each side's middle the row goes around just left once more than just right, for each side that lies along there, and once less for each against it.
func TestBesideDiffers(t *testing.T) {
	c := chain(77777)
	for i := range 200 {
		l := c.row(2+i%9, 3, 1)
		for _, s := range sidesOf(l) {
			if !promised(l, s) {
				continue
			}
			more := 0
			for _, w := range sidesOf(l) {
				if w.has(s.middle()) && !w.a.minus(s.middle()).none() && !w.b.minus(s.middle()).none() {
					more += 2 * w.dir().dot(s.dir()).Sign()
				} else if w.has(s.middle()) { // half of a side: the other half is the one ahead or behind
					more += w.dir().dot(s.dir()).Sign()
				}
			}
			left, right := wind.Beside(points(l), s.seg())
			if !s.dir().none() && 2*(left-right) != more {
				t.Fatal(text(l), s.text(), left, right, more)
			}
		}
	}
}

// P13.2: Grid of all kinds of rows.
func TestGrid(t *testing.T) {
	for _, l := range [][]api.Pt{nil, {}, {{}}, {{X: 3, Y: -4}}, {{X: 1, Y: 2}, {X: 1, Y: 2}, {X: 2, Y: 1}, {X: 1, Y: 2}}, {{X: lowest, Y: top}, {X: top, Y: lowest}, {X: -1}, {Y: 1 << 31}}} {
		got := wind.Grid(l)
		if len(got) != len(l) {
			t.Fatal(len(got), len(l))
		}
		for i, p := range l {
			if want := at(int64(p.X), int64(p.Y)); got[i].Text() != want.text() || got[i].Cmp(want.point()) != 0 {
				t.Fatal(i, got[i].Text(), want.text())
			}
		}
	}
}
