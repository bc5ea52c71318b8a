package outline_test

import (
	"math/big"
	"strconv"
	"testing"

	"pellicle/api"
	"pellicle/octant"
	"pellicle/surd"
)

// compass are directions of all eighths: their squares are 1 and 2, those of whole numbers (25, 169, 289), and others.
func compass() []api.Pt {
	var l []api.Pt
	for _, d := range []api.Pt{{X: 1}, {X: 1, Y: 1}, {X: 4, Y: 3}, {X: 12, Y: 5}, {X: 2, Y: 1}, {X: 3, Y: 1}, {X: 17, Y: 1}} {
		for range 4 {
			l = append(l, d, api.Pt{X: d.Y, Y: d.X})
			d = api.Pt{X: -d.Y, Y: d.X}
		}
	}
	return l
}

// ahead gives the point that many times the direction on.
func ahead(p, d api.Pt, n int) api.Pt { return api.Pt{X: p.X + n*d.X, Y: p.Y + n*d.Y} }

// P9.1: paths of two corners, in all directions, near to one another and far.
func TestTwoCorners(t *testing.T) {
	for _, d := range compass() {
		for _, n := range []int{1, 2, 15, 1000003} {
			p := api.Pt{X: -7, Y: 20}
			holdsAll(t, []api.Pt{p, ahead(p, d, n)})
		}
	}
}

// P9.1: paths of three corners: each direction behind each other one, to the left and to the right, sharp and blunt.
func TestThreeCorners(t *testing.T) {
	for i, d := range compass() {
		for j, e := range compass() {
			p := api.Pt{X: 3, Y: 5}
			q := ahead(p, d, 6)
			l := []api.Pt{p, q, ahead(q, e, 10)}
			if !inLine(l[0], l[1], l[2]) {
				holds(t, way{l, 6, []int{0, 1, 2, 4}[(i+j)%4], 2, 3}, l)
			}
		}
	}
}

// P9.1: paths of many corners: stairs, a spiral, rows that cross themselves or come back to where they began.
func TestManyCorners(t *testing.T) {
	for _, l := range [][]api.Pt{
		row(0, 0, 10, 0, 10, 10, 20, 10, 20, 20, 30, 20, 30, 30),
		row(0, 0, 9, 0, 9, 9, 1, 9, 1, 1, 8, 1, 8, 8, 2, 8),
		row(0, 0, 10, 0, 10, 10, 0, 10, 0, 0),
		row(0, 0, 10, 0, 5, 9, 0, 0),
		row(0, 0, 10, 10, 20, 0, 20, 10, 10, 0, 0, 10),
		row(0, 0, 10, 0, 0, 1, 10, 1, 0, 2, 10, 2),
		row(5, 5, 5, 15, 12, 22, 22, 22, 29, 15, 29, 5, 22, -2, 12, -2, 5, 5),
		row(0, 0, 1, 0, 2, 1, 2, 2, 1, 3, 0, 3, -1, 2, -1, 1, 0, 0, 1, 0),
	} {
		holdsAll(t, l)
	}
	c := chain(2463534242)
	for n := 2; n < 40; n++ {
		holdsAll(t, c.path(n, -30, 30))
		holdsAll(t, c.path(n, -100000, 100000))
	}
}

// P9.1: coordinates at and near the grid's ends, where directions are as long as they come.
func TestGridEnds(t *testing.T) {
	for _, l := range [][]api.Pt{
		row(low, low, high, high),
		row(high, low, low, high),
		row(low, low, high, high-1),
		row(high, high-1, low, low),
		row(low, high, high, high, high, low, low, low, low, high-1),
		row(low, low, high, high-1, low+1, low),
		row(high, low, low, high-1, high-1, low),
		row(low, 0, high, 1, low, 2),
		row(0, low, 1, high, 2, low, 3, high),
		row(low, low, low+1, low),
		row(high, high, high, high-1),
	} {
		holdsAll(t, l)
	}
	c := chain(88172645463325252)
	for n := 2; n < 12; n++ {
		holdsAll(t, c.path(n, low, high))
	}
}

// P9.1: widths that are odd and even, 1 and MaxCoord.
func TestWidths(t *testing.T) {
	l := row(0, 0, 30, 40, 31, 90, -5, 7)
	for _, width := range []int{1, 2, 3, 10, 11, 65535, 65536, high - 1, high} {
		for _, kind := range []int{0, 1, 2, 4} {
			holds(t, way{l, width, kind, -3, 5}, l)
		}
	}
}

// P9.1: begin and end below 0, 0 and above, each for itself, with the kind 4.
func TestEnds(t *testing.T) {
	l := row(4, 5, 16, 10, 17, 60)
	ends := []int{-high, -high + 1, -1000, -2, -1, 0, 1, 2, 1000, high - 1, high}
	for _, begin := range ends {
		for _, end := range ends {
			holds(t, way{l, 9, 4, begin, end}, l)
		}
	}
}

// P9.1: begin and end count with the kind 4 alone.
func TestEndsOfOtherKinds(t *testing.T) {
	l := row(0, 0, 7, 7, 3, 20)
	for _, kind := range []int{0, 1, 2} {
		want := way{l, 6, kind, 0, 0}.places(t)
		for _, n := range []int{-high, -1, 1, high} {
			alike(t, "begin", way{l, 6, kind, n, 0}.places(t), want)
			alike(t, "end", way{l, 6, kind, 0, n}.places(t), want)
			alike(t, "both", way{l, 6, kind, n, -n}.places(t), want)
		}
	}
	alike(t, "kind 4 without ends", way{l, 6, 4, 0, 0}.places(t), way{l, 6, 0, 0, 0}.places(t))
	alike(t, "kind 4 with half the width", way{l, 6, 4, 3, 3}.places(t), way{l, 6, 2, 0, 0}.places(t))
}

// P9.1: as many points as there may be, all of them corners, or only two.
func TestMostPoints(t *testing.T) {
	var zigzag, straight, still []api.Pt
	for i := range api.MaxPoints {
		zigzag = append(zigzag, api.Pt{X: 3 * i, Y: i % 2 * (5 + i%3)})
		straight = append(straight, api.Pt{X: 2 * i, Y: -3 * i})
		still = append(still, api.Pt{X: 12, Y: -8})
	}
	still[api.MaxPoints-1] = api.Pt{X: 13, Y: 1}
	holds(t, way{zigzag, 3, 1, 0, 0}, zigzag)
	holds(t, way{straight, 3, 2, 0, 0}, []api.Pt{straight[0], straight[api.MaxPoints-1]})
	holds(t, way{still, 3, 0, 0, 0}, row(12, -8, 13, 1))
}

// written gives a number's text, without the parts that are 0.
func written(a surd.Surd) string {
	m, n := a.Field()
	roots := []string{"", "r" + m.Text(), "r" + n.Text(), "r" + m.Text() + "r" + n.Text()}
	out := ""
	for i, part := range a.Parts() {
		if part.Sign() != 0 {
			out += "+" + part.Text() + roots[i]
		}
	}
	return out
}

// P9.1: places written out, with roots that are not whole.
func TestWrittenOut(t *testing.T) {
	for _, x := range []struct {
		w    way
		want []string // x and y of each
	}{
		{way{row(0, 0, 6, 8), 10, 0, 0, 0}, []string{"+-4/5r25", "+3/5r25", "+6+-4/5r25", "+8+3/5r25", "+6+4/5r25", "+8+-3/5r25", "+4/5r25", "+-3/5r25"}},
		{way{row(0, 0, 5, 5), 4, 4, 3, -1}, []string{"+-5/2r2", "+-1/2r2", "+5+-3/2r2", "+5+1/2r2", "+5+1/2r2", "+5+-3/2r2", "+-1/2r2", "+-5/2r2"}},
		{way{row(0, 0, 4, 2), 3, 1, 0, 0}, []string{
			"+-3/10r5", "+3/5r5", "+4+-3/10r5", "+2+3/5r5",
			"+4+3/20r5r2", "+2+9/20r5r2", "+4+3/5r5", "+2+3/10r5", "+4+9/20r5r2", "+2+-3/20r5r2",
			"+4+3/10r5", "+2+-3/5r5", "+3/10r5", "+-3/5r5",
			"+-3/20r5r2", "+-9/20r5r2", "+-3/5r5", "+-3/10r5", "+-9/20r5r2", "+3/20r5r2"}},
		{way{row(0, 0, 10, 5, 10, 20), 2, 0, 0, 0}, []string{
			"+-1/5r5", "+2/5r5", "+10+-1r1", "+5+1/2r5+-1/2r1", "+10+-1r1", "+20",
			"+10+1r1", "+20", "+10+1r1", "+5+-1/2r5+1/2r1", "+1/5r5", "+-2/5r5"}},
		{way{row(0, 0, 3, 0, 0, 3), 1, 2, 0, 0}, []string{
			"+-1/2r1", "+1/2r1", "+3+-1/2r1+-1/2r2", "+1/2r1", "+-1/2r2", "+3",
			"", "+3+1/2r2", "+3+1/2r1+1/2r2", "+-1/2r1", "+-1/2r1", "+-1/2r1"}},
	} {
		for i, q := range x.w.places(t) {
			if got := []string{written(q.X), written(q.Y)}; got[0] != x.want[2*i] || got[1] != x.want[2*i+1] {
				t.Fatalf("%v, place %d: %v, want %v", x.w, i, got, x.want[2*i:2*i+2])
			}
		}
	}
}

// P9.1: how many places there are: two a corner, and with the kind 1 three more at each end.
func TestHowMany(t *testing.T) {
	c := chain(521288629)
	for n := 2; n < 30; n++ {
		l := c.path(n, -50, 50)
		for kind, more := range map[int]int{0: 0, 1: 6, 2: 0, 4: 0} {
			if got := len(way{l, 3, kind, 1, 1}.places(t)); got != 2*n+more {
				t.Fatalf("%d corners, kind %d: %d places", n, kind, got)
			}
		}
	}
}

// nearest gives the grid's points.
func nearest(t *testing.T, l []octant.Place) string {
	t.Helper()
	out := ""
	for _, q := range l {
		p, e := octant.Grid(q)
		if e != api.OK {
			t.Fatalf("error %d", e)
		}
		out += " " + strconv.Itoa(p.X) + " " + strconv.Itoa(p.Y)
	}
	return out
}

// The chapter's examples, and others on the grid.
func TestExamples(t *testing.T) {
	for _, x := range []struct {
		w    way
		want string
	}{
		{way{row(0, 0, 10, 0), 4, 0, 0, 0}, " 0 2 10 2 10 -2 0 -2"},
		{way{row(0, 0, 10, 0), 4, 2, 0, 0}, " -2 2 12 2 12 -2 -2 -2"},
		{way{row(0, 0, 10, 0, 10, 10), 4, 0, 0, 0}, " 0 2 8 2 8 10 12 10 12 -2 0 -2"},
		{way{row(0, 0, 10, 0, 10, -10), 4, 0, 0, 0}, " 0 2 12 2 12 -10 8 -10 8 -2 0 -2"},
		{way{row(0, 0, 10, 0), 4, 4, 1, 3}, " -1 2 13 2 13 -2 -1 -2"},
		{way{row(0, 0, 10, 0), 4, 4, -1, -3}, " 1 2 7 2 7 -2 1 -2"},
		{way{row(0, 0, 0, 100), 20, 1, 0, 0}, " -10 0 -10 100 -7 107 0 110 7 107 10 100 10 0 7 -7 0 -10 -7 -7"},
		{way{row(0, 0, 100, 100), 20, 0, 0, 0}, " -7 7 93 107 107 93 7 -7"},
		{way{row(0, 0, 30, 40, 30, 140), 20, 0, 0, 0}, " -8 6 20 43 20 140 40 140 40 37 8 -6"},
		{way{row(0, 0, 100, 0, 0, 10), 10, 0, 0, 0}, " 0 5 0 5 0 5 0 15 200 -5 0 -5"},
	} {
		got, e := x.w.of()
		if e != api.OK || nearest(t, got) != x.want {
			t.Errorf("%v:%s, error %d, want%s", x.w, nearest(t, got), e, x.want)
		}
	}
}

// The test's own words: a line's left, and what lies in line.
func TestWords(t *testing.T) {
	d := between(api.Pt{X: 2, Y: 3}, api.Pt{X: 14, Y: -13})
	if d.x.Cmp(big.NewInt(3)) != 0 || d.y.Cmp(big.NewInt(-4)) != 0 || d.square().Text() != "25" || d.left().x.Int64() != 4 || d.left().y.Int64() != 3 {
		t.Fatal(d)
	}
	if !inLine(api.Pt{}, api.Pt{X: 2, Y: 2}, api.Pt{X: 1, Y: 1}) || inLine(api.Pt{}, api.Pt{X: low, Y: low}, api.Pt{X: high, Y: high - 1}) {
		t.Fatal("in line")
	}
}
