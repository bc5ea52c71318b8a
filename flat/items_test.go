package flat_test

import (
	"math"
	"testing"

	"pellicle/api"
)

// The chapter's example, and P10.1's order.
func TestExample(t *testing.T) {
	u := valid(t, lib(cell("a", square(10)), cell("top", ref("a", 100, 0, plain(), turned(90)))))
	comes(t, u, made(1, 2, 100, 0, 100, 10, 90, 10, 90, 0))
	fails(t, "n 0", u, 0, api.ErrCount)
}

// P10.1: a library of no cells, of empty ones, of a top without a shape comes to nothing, and may with n 0.
func TestNothing(t *testing.T) {
	comes(t, valid(t, lib()))
	comes(t, valid(t, lib(cell("a"))))
	comes(t, valid(t, lib(cell("a"), cell("b", ref("a", 1, 2)), cell("c", array("a", 30, 40, []int{0, 0, 9, 0, 0, 9})), cell("d"))))
	for _, u := range []api.Lib{lib(), lib(cell("a")), lib(cell("a"), cell("b", ref("a", 1, 2)))} {
		fails(t, "nothing, n 0", u, 0, api.OK)
		fails(t, "nothing, n 1", u, 1, api.OK)
	}
}

// P10.1: the shapes of all tops, in the order of the cells; those of a cell that is no top where it is referred to alone.
func TestTops(t *testing.T) {
	a, b, c := made(1, 2, 0, 0, 1, 0, 1, 1, 0, 1), made(1, 2, 0, 0, 2, 0, 2, 2, 0, 2), made(1, 2, 0, 0, 3, 0, 3, 3, 0, 3)
	comes(t, lib(cell("z", square(1)), cell("y", square(2)), cell("x", square(3))), a, b, c)
	comes(t, lib(cell("x", square(3)), cell("z", square(1)), cell("y", square(2))), c, a, b)
	comes(t, lib(cell("z", square(1)), cell("low", square(2)), cell("x", square(3), ref("low", 0, 0))), a, c, b)
	comes(t, lib(cell("x", ref("low", 0, 0), square(3)), cell("low", square(2)), cell("z", square(1))), b, c, a)
	comes(t, lib(cell("x", ref("low", 0, 0)), cell("y", ref("low", 0, 0)), cell("low", square(2), square(1))), b, a, b, a)
	comes(t, lib(cell("low", square(1)), cell("mid", ref("low", 0, 0), square(2)), cell("top", square(3), ref("mid", 0, 0), ref("low", 0, 0))), c, a, b, a)
}

// P10.1: of a BOUNDARY its points but the last one, of its LAYER, its DATATYPE.
func TestBoundary(t *testing.T) {
	comes(t, valid(t, lib(cell("a", shape(0, 0, 10, 0, 5, 7, 0, 0)))), made(1, 2, 0, 0, 10, 0, 5, 7))
	comes(t, lib(cell("a", shape(3, 3, 3, 3, 3, 3, 3, 3))), made(1, 2, 3, 3, 3, 3, 3, 3))
	comes(t, lib(cell("a", shape(0, 0, 5, 5, 0, 0, 5, 5, 0, 0))), made(1, 2, 0, 0, 5, 5, 0, 0, 5, 5))
	for _, n := range []int{math.MinInt16, -1, 0, 1, 255, 256, math.MaxInt16} {
		x := item(boundary, shorts(layer, n), shorts(datatype, ^n), longs(xy, 0, 0, 1, 0, 1, 1, 0, 0))
		comes(t, valid(t, lib(cell("a", x))), made(n, ^n, 0, 0, 1, 0, 1, 1))
	}
	var l []int
	for i := range api.MaxPoints - 1 {
		l = append(l, i, i*i%1001-500)
	}
	comes(t, valid(t, lib(cell("a", shape(append(l, l[0], l[1])...)))), made(1, 2, l...))
}

// P10.1: of a BOX likewise, of its LAYER, its BOXTYPE.
func TestBox(t *testing.T) {
	comes(t, valid(t, lib(cell("a", crate(0, 0, 10, 0, 10, 7, 0, 7, 0, 0)))), made(3, 4, 0, 0, 10, 0, 10, 7, 0, 7))
	comes(t, lib(cell("a", crate(1, 2, 0, 0, 9, 9, -3, 4, 1, 2))), made(3, 4, 1, 2, 0, 0, 9, 9, -3, 4))
	x := item(box, shorts(layer, -7), shorts(0x2e, 300), longs(xy, 0, 0, 0, 0, 0, 0, 0, 0, 0, 0))
	comes(t, valid(t, lib(cell("a", x))), made(-7, 300, 0, 0, 0, 0, 0, 0, 0, 0))
}

// P10.1: a TEXT, a NODE give nothing, however they are.
func TestTextAndNode(t *testing.T) {
	l := []api.Item{
		label(), label(plain()), label(flipped(), times(3, 2), turned(-45)), label(shorts(pathtype, 3), longs(width, -9)),
		spot(1, 1), spot(0, 0, 5, 5, 0, 0), spot(1, 2, 3, 4, 5, 6, 7, 8, 9, 10),
	}
	for _, x := range l {
		comes(t, valid(t, lib(cell("a", x))))
		comes(t, lib(cell("a", x, square(10), x)), made(1, 2, 0, 0, 10, 0, 10, 10, 0, 10))
	}
	fails(t, "texts and nodes, n 0", lib(cell("a", l...)), 0, api.OK)
}

// P10.1: what an item has beside (ELFLAGS, PLEX, PROPERTIES, a CLASS of its cell) counts nothing.
func TestBeside(t *testing.T) {
	flags, plex := api.Record{Kind: 0x26, Data: 1, Body: []byte{0xff, 0xff}}, longs(0x2f, -1)
	with := func(kind byte, l ...api.Record) api.Item {
		x := item(kind, append([]api.Record{flags, plex}, l...)...)
		x.Props = []api.Record{shorts(0x2b, 1), letters(0x2c, "some"), shorts(0x2b, 2), letters(0x2c, "more")}
		return x
	}
	for _, x := range []api.Item{square(1), crate(0, 0, 1, 0, 1, 1, 0, 1, 0, 0), line([]int{0, 0, 10, 0}, longs(width, 4)), ref("b", 3, 3, flipped(), times(2, 1), turned(45)), label(), spot(1, 1)} {
		want := shapes(t, lib(cell("b", square(2)), cell("a", x)))
		u := lib(cell("b", square(2)), cell("a", with(x.Fields[0].Kind, x.Fields[1:]...)))
		u.Cells[1].Head = append(u.Cells[1].Head, api.Record{Kind: 0x34, Data: 1, Body: []byte{0, 9}})
		comes(t, valid(t, u), want...)
	}
}

// P10.1: of a PATH the places of chapter 9, rounded; the PATHTYPE is 0, BGNEXTN and ENDEXTN are 0, if there is none.
func TestPathTypes(t *testing.T) {
	leg, wide := []int{0, 0, 10, 0}, longs(width, 4)
	kind := func(n int) api.Record { return shorts(pathtype, n) }
	begin, end := func(n int) api.Record { return longs(bgnextn, n) }, func(n int) api.Record { return longs(endextn, n) }
	flush := []int{0, 2, 10, 2, 10, -2, 0, -2}
	round := []int{0, 2, 10, 2, 11, 1, 12, 0, 11, -1, 10, -2, 0, -2, -1, -1, -2, 0, -1, 1}
	ahead := []int{-2, 2, 12, 2, 12, -2, -2, -2}
	for _, x := range []struct {
		l    []api.Record
		want []int
	}{
		{[]api.Record{wide}, flush},
		{[]api.Record{kind(0), wide}, flush},
		{[]api.Record{kind(1), wide}, round},
		{[]api.Record{kind(2), wide}, ahead},
		{[]api.Record{kind(4), wide}, flush},
		{[]api.Record{kind(4), wide, begin(3)}, []int{-3, 2, 10, 2, 10, -2, -3, -2}},
		{[]api.Record{kind(4), wide, end(5)}, []int{0, 2, 15, 2, 15, -2, 0, -2}},
		{[]api.Record{kind(4), wide, begin(3), end(5)}, []int{-3, 2, 15, 2, 15, -2, -3, -2}},
		{[]api.Record{kind(4), wide, begin(-3), end(-1)}, []int{3, 2, 9, 2, 9, -2, 3, -2}},
		{[]api.Record{kind(4), wide, begin(-high), end(high - 10)}, []int{high, 2, high, 2, high, -2, high, -2}},
		{[]api.Record{wide, begin(3), end(5)}, flush},
		{[]api.Record{kind(0), wide, begin(3), end(5)}, flush},
		{[]api.Record{kind(1), wide, begin(3), end(5)}, round},
		{[]api.Record{kind(2), wide, begin(-high), end(high)}, ahead},
		{[]api.Record{longs(width, 3)}, []int{0, 2, 10, 2, 10, -2, 0, -2}},
		{[]api.Record{longs(width, 5)}, []int{0, 2, 10, 2, 10, -2, 0, -2}},
		{[]api.Record{longs(width, 1)}, []int{0, 0, 10, 0, 10, 0, 0, 0}},
	} {
		comes(t, valid(t, lib(cell("a", line(leg, x.l...)))), made(5, 6, x.want...))
	}
	comes(t, lib(cell("a", line([]int{0, 0, 10, 10}, longs(width, 2)))), made(5, 6, -1, 1, 9, 11, 11, 9, 1, -1))
	comes(t, lib(cell("a", line([]int{0, 0, 20, 10}, longs(width, 10)))), made(5, 6, -2, 4, 18, 14, 22, 6, 2, -4))
	comes(t, lib(cell("a", line([]int{0, 0, 10, 0, 10, 10}, wide))), made(5, 6, 0, 2, 8, 2, 8, 10, 12, 10, 12, -2, 0, -2))
	comes(t, lib(cell("a", line([]int{0, 0, 0, 0, 5, 0, 7, 0, 10, 0, 10, 0}, wide))), made(5, 6, flush...))
	x := item(path, shorts(layer, -4), shorts(datatype, 1000), wide, longs(xy, leg...))
	comes(t, valid(t, lib(cell("a", x))), made(-4, 1000, flush...))
}

// P10.1: a PATH of WIDTH 0, or without one, or of like points alone, gives nothing, and counts as nothing.
func TestPathsOfNothing(t *testing.T) {
	for _, n := range []int{0, 1, 2, 4} {
		for _, x := range []api.Item{
			line([]int{0, 0, 10, 0}, shorts(pathtype, n)),
			line([]int{0, 0, 10, 0}, shorts(pathtype, n), longs(width, 0)),
			line([]int{0, 0, 10, 0}, shorts(pathtype, n), longs(width, 0), longs(bgnextn, 5), longs(endextn, 5)),
			line([]int{3, 4}, shorts(pathtype, n), longs(width, 6)),
			line([]int{3, 4, 3, 4}, shorts(pathtype, n), longs(width, 6)),
			line([]int{3, 4, 3, 4, 3, 4, 3, 4}, shorts(pathtype, n), longs(width, 6), longs(bgnextn, 5), longs(endextn, 5)),
			line([]int{3, 4, 3, 4}, shorts(pathtype, n)),
			line([]int{low, low}, shorts(pathtype, n), longs(width, high)),
		} {
			u := valid(t, lib(cell("a", x)))
			comes(t, u)
			fails(t, "a path of nothing, n 0", u, 0, api.OK)
			comes(t, lib(cell("a", x, square(1), x), cell("top", ref("a", 7, 0))), made(1, 2, 7, 0, 8, 0, 8, 1, 7, 1))
		}
	}
	var like []int
	for range api.MaxPoints {
		like = append(like, -5, 8)
	}
	comes(t, valid(t, lib(cell("a", line(like, longs(width, 10))))))
	comes(t, valid(t, lib(cell("a", line(append(like[2:], -5, 9), longs(width, 10))))), made(5, 6, -10, 8, -10, 9, 0, 9, 0, 8))
}

// P10.1: a PATH of as many points as there may be.
func TestLongPath(t *testing.T) {
	var l []int
	for i := range api.MaxPoints {
		l = append(l, i*100, i%2*100)
	}
	u := valid(t, lib(cell("a", line(l, shorts(pathtype, 2), longs(width, 10)))))
	got := shapes(t, u)
	want, e := reckoned(u)
	if e != api.OK || len(got[0].Pts) != 2*api.MaxPoints {
		t.Fatal(e, len(got[0].Pts))
	}
	same(t, "a long path", got, want)
}
