package flat_test

import (
	"strconv"
	"testing"

	"pellicle/api"
)

// P10.1: a library that isn't Valid is ErrStream.
func TestNotValid(t *testing.T) {
	fails(t, "no records", api.Lib{}, 5, api.ErrStream)
	fails(t, "no records, n 0", api.Lib{}, 0, api.ErrStream)
	fails(t, "cells alone", api.Lib{Cells: []api.Cell{cell("a", square(1))}}, 5, api.ErrStream)
	for i := range lib().Head {
		u := lib(cell("a", square(1)))
		u.Head = append(u.Head[:i:i], u.Head[i+1:]...)
		fails(t, "without a record of the head", u, 5, api.ErrStream)
	}
	for _, c := range []api.Cell{
		{},
		{Head: cell("a").Head[:1]},
		{Head: cell("a").Head[1:]},
		cell(""),
		cell("a b"),
		cell("a", api.Item{}),
		cell("a", item(0x05)),
		cell("a", item(boundary)),
		cell("a", item(boundary, shorts(layer, 1), longs(xy, 0, 0, 1, 0, 1, 1, 0, 0))),
		cell("a", shape()),
		cell("a", shape(1)),
		cell("a", item(path, shorts(layer, 1), shorts(datatype, 1), longs(width, 4), shorts(pathtype, 1), longs(xy, 0, 0, 1, 0))),
		cell("a", item(sref, longs(xy, 0, 0))),
		cell("a", ref("", 0, 0)),
		cell("a", ref("no name", 0, 0)),
		cell("a", ref("b", 0, 0, times(1, 1))),
		cell("a", ref("b", 0, 0, turned(0))),
		cell("a", ref("b", 0, 0, plain(), turned(0), times(1, 1))),
		cell("a", item(aref, letters(sname, "b"), longs(xy, 0, 0, 1, 0, 0, 1))),
		cell("a", ref("b", 0, 0, shorts(colrow, 1, 1))),
		cell("a", line([]int{0, 0, 1, 0}, plain())),
		cell("a", api.Item{Fields: square(1).Fields, Props: []api.Record{shorts(0x2b, 1)}}),
	} {
		fails(t, "a cell that is none", lib(cell("b"), c), 5, api.ErrStream)
		fails(t, "a cell that is none, behind a lost one", lib(cell("z", ref("no", 0, 0), ref("z", 0, 0)), c), 0, api.ErrStream)
	}
}

// P10.1: a reference that names a cell that isn't there is ErrLost, wherever it stands.
func TestLost(t *testing.T) {
	for _, x := range []api.Item{ref("no", 0, 0), array("no", 3, 3, []int{0, 0, 9, 0, 0, 9}), ref("A", 0, 0), ref("aa", 0, 0), ref("a_", 0, 0), ref("?", 0, 0)} {
		for _, u := range []api.Lib{
			lib(cell("top", x)),
			lib(cell("a"), cell("top", x)),
			lib(cell("top", x), cell("a")),
			lib(cell("a", square(1), x), cell("b", ref("a", 0, 0)), cell("top", ref("b", 0, 0))),
			lib(cell("a", x), cell("b", array("a", 1, 1, []int{0, 0, 0, 0, 0, 0})), cell("top")),
			lib(cell("a"), cell("b", ref("a", 0, 0), ref("a", 0, 0), x, ref("a", 0, 0))),
		} {
			for _, n := range []int{0, 1, api.MaxShapes} {
				fails(t, "lost", valid(t, u), n, api.ErrLost)
			}
		}
	}
	longest := "abcdefghijklmnopqrstuvwxyzABCDEF"
	comes(t, valid(t, lib(cell(longest, square(1)), cell("top", ref(longest, 0, 0)))), made(1, 2, 0, 0, 1, 0, 1, 1, 0, 1))
	fails(t, "one sign shorter", lib(cell(longest, square(1)), cell("top", ref(longest[:31], 0, 0))), 5, api.ErrLost)
	comes(t, lib(cell("$", square(1)), cell("top", ref("$", 0, 0))), made(1, 2, 0, 0, 1, 0, 1, 1, 0, 1))
}

// P10.1: a cell that refers, through others or at once, to itself is ErrCycle.
func TestCycles(t *testing.T) {
	for _, n := range []int{1, 2, 3, 5, 64, 65, 1000} {
		var cells []api.Cell
		for i := range n {
			cells = append(cells, cell("x"+strconv.Itoa(i), ref("x"+strconv.Itoa((i+1)%n), 0, 0)))
		}
		fails(t, "a cycle", valid(t, lib(cells...)), 0, api.ErrCycle)
		fails(t, "a cycle", lib(cells...), api.MaxShapes, api.ErrCycle)
		fails(t, "a cycle beside", lib(append(cells, cell("a", square(1)))...), 5, api.ErrCycle)
		fails(t, "a cycle within", lib(append(cells, cell("a", square(1), ref("x0", 0, 0)))...), 5, api.ErrCycle)
		cells[n-1].Items = append(cells[n-1].Items, ref("a", 0, 0))
		fails(t, "a cell within a cycle", lib(append(cells, cell("a", square(1)))...), 5, api.ErrCycle)
	}
	fails(t, "by an array", lib(cell("a", array("a", 2, 2, []int{0, 0, 0, 0, 0, 0}))), 5, api.ErrCycle)
	fails(t, "behind others", lib(cell("a"), cell("b", ref("a", 0, 0), ref("c", 0, 0)), cell("c", ref("a", 0, 0), ref("b", 0, 0), ref("d", 0, 0)), cell("d", ref("a", 0, 0))), 5, api.ErrCycle)
	comes(t, lib(cell("d", ref("b", 0, 0), ref("c", 0, 0)), cell("b", ref("a", 1, 0)), cell("c", ref("a", 0, 1)), cell("a", shape(0, 0, 0, 0, 0, 0, 0, 0))), made(1, 2, 1, 0, 1, 0, 1, 0), made(1, 2, 0, 1, 0, 1, 0, 1)) // no cycle, but two ways
	fails(t, "two ways", lib(cell("d", ref("b", 0, 0), ref("c", 0, 0)), cell("b", ref("a", 1, 0)), cell("c", ref("a", 0, 1)), cell("a", ref("d", 0, 0))), 5, api.ErrCycle)
	fails(t, "of two cells with one name, by the first one", lib(cell("a", ref("b", 0, 0)), cell("a"), cell("b", ref("a", 0, 0))), 5, api.ErrCycle)
	fails(t, "of two cells with one name, by the second one", lib(cell("a"), cell("a", ref("b", 0, 0)), cell("b", ref("a", 0, 0))), 5, api.ErrCycle)
	fails(t, "of two cells with one name, to itself", lib(cell("a", ref("a", 0, 0)), cell("a")), 5, api.ErrCycle)
}

// strangers are items that are outside the domain, each by one thing.
func strangers() map[string]api.Item {
	reals := func(kind byte, b ...byte) api.Record { return api.Record{Kind: kind, Data: 5, Body: b} }
	leg := []int{0, 0, 10, 0}
	l := map[string]api.Item{
		"a boundary that isn't closed":          shape(0, 0, 10, 0, 10, 10, 0, 10),
		"a boundary that isn't, in y alone":     shape(0, 0, 10, 0, 10, 10, 0, 1),
		"a boundary that isn't, in x alone":     shape(0, 0, 10, 0, 10, 10, 1, 0),
		"a boundary of three points":            shape(0, 0, 10, 0, 0, 0),
		"a boundary of two":                     shape(0, 0, 0, 0),
		"a boundary of one":                     shape(0, 0),
		"a box of four points":                  crate(0, 0, 10, 0, 10, 10, 0, 0),
		"a box of six":                          crate(0, 0, 10, 0, 10, 10, 0, 10, 0, 5, 0, 0),
		"a box of one":                          crate(0, 0),
		"a box that isn't closed":               crate(0, 0, 10, 0, 10, 10, 0, 10, 0, 1),
		"a width below 0":                       line(leg, longs(width, -1)),
		"the least width":                       line(leg, longs(width, low)),
		"a width below 0, of like points":       line([]int{1, 1, 1, 1}, longs(width, -4)),
		"an opposite direction":                 line([]int{0, 0, 10, 0, 5, 0}, longs(width, 4)),
		"an opposite one, without a width":      line([]int{0, 0, 10, 0, 5, 0}),
		"an opposite one, of width 0":           line([]int{0, 0, 10, 0, 5, 0}, longs(width, 0)),
		"an opposite one, behind others":        line([]int{0, 0, 3, 6, 3, 6, 4, 8, 4, 8, 1, 2}, longs(width, 4)),
		"an opposite one, far":                  line([]int{low, low, high, high, low, low}, longs(width, 4)),
		"a beginning of -2^31":                  line(leg, shorts(pathtype, 4), longs(width, 4), longs(bgnextn, low)),
		"an end of -2^31":                       line(leg, shorts(pathtype, 4), longs(width, 4), longs(endextn, low)),
		"a beginning of -2^31, without a kind":  line(leg, longs(width, 4), longs(bgnextn, low)),
		"an end of -2^31, without a width":      line(leg, shorts(pathtype, 2), longs(endextn, low)),
		"an end of -2^31, of like points":       line([]int{1, 1}, longs(endextn, low)),
		"an sref of two points":                 item(sref, letters(sname, "low"), longs(xy, 0, 0, 0, 0)),
		"an sref of three":                      item(sref, letters(sname, "low"), longs(xy, 0, 0, 1, 0, 0, 1)),
		"an aref of one point":                  array("low", 1, 1, []int{0, 0}),
		"an aref of two":                        array("low", 1, 1, []int{0, 0, 1, 0}),
		"an aref of four":                       array("low", 1, 1, []int{0, 0, 1, 0, 0, 1, 0, 0}),
		"an aref of no columns":                 array("low", 0, 1, []int{0, 0, 1, 0, 0, 1}),
		"an aref of no rows":                    array("low", 1, 0, []int{0, 0, 1, 0, 0, 1}),
		"an aref of columns below 0":            array("low", -1, 1, []int{0, 0, 1, 0, 0, 1}),
		"an aref of rows below 0":               array("low", 1, -32768, []int{0, 0, 1, 0, 0, 1}),
		"an aref of columns and rows below 0":   array("low", -2, -2, []int{0, 0, 1, 0, 0, 1}),
		"an aref of columns beyond a short":     array("low", 32768, 1, []int{0, 0, 1, 0, 0, 1}),
		"an aref of rows beyond a short":        array("low", 1, 65535, []int{0, 0, 1, 0, 0, 1}),
		"an aref of nothing, without columns":   array("none", 0, 1, []int{0, 0, 1, 0, 0, 1}),
		"an sref of nothing, of two points":     item(sref, letters(sname, "none"), longs(xy, 0, 0, 0, 0)),
		"a mag of nothing, of 0":                ref("none", 0, 0, plain(), times(0, 1)),
		"an angle of nothing, of 30":            ref("none", 0, 0, plain(), turned(30)),
		"all bits of nothing":                   ref("none", 0, 0, bits(0xffff)),
		"a mag of -0":                           ref("low", 0, 0, plain(), reals(mag, 0xc1, 0, 0, 0, 0, 0, 0, 0)),
		"the greatest mag, below 0":             ref("low", 0, 0, plain(), reals(mag, 0xff, 255, 255, 255, 255, 255, 255, 255)),
		"the mag nearest to 0, below it":        ref("low", 0, 0, plain(), reals(mag, 0x80, 0, 0, 0, 0, 0, 0, 1)),
		"an angle of 45 and the least more":     ref("low", 0, 0, plain(), reals(angle, 0x42, 0x2d, 0, 0, 0, 0, 0, 1)),
		"an angle of the least number":          ref("low", 0, 0, plain(), reals(angle, 0, 0, 0, 0, 0, 0, 0, 1)),
		"the greatest angle":                    ref("low", 0, 0, plain(), reals(angle, 0x7f, 255, 255, 255, 255, 255, 255, 255)),
		"an angle of a real's rounded 45 times": ref("low", 0, 0, plain(), reals(angle, 0x41, 0x48, 0, 0, 0, 0, 0, 0)),
	}
	for _, n := range []int{-32768, -4, -1, 3, 5, 6, 256, 260, 32767} {
		l["the pathtype "+strconv.Itoa(n)] = line(leg, shorts(pathtype, n), longs(width, 4))
		l["without a width, the pathtype "+strconv.Itoa(n)] = line(leg, shorts(pathtype, n))
		l["of like points, the pathtype "+strconv.Itoa(n)] = line([]int{1, 1, 1, 1}, shorts(pathtype, n), longs(width, 4))
	}
	for k := range 15 {
		for _, n := range []int{1 << k, 0x8000 | 1<<k, 0xffff ^ 1<<k} {
			l["an sref of the bits "+strconv.Itoa(n)] = ref("low", 0, 0, bits(n))
			l["an aref of the bits "+strconv.Itoa(n)] = array("low", 2, 1, []int{0, 0, 1, 0, 0, 1}, bits(n))
			l["a text of the bits "+strconv.Itoa(n)] = label(bits(n))
		}
	}
	for _, n := range []int{0, -1, -16, -1000} {
		what := "a mag of sixteenths, so many: " + strconv.Itoa(n)
		l["sref, "+what] = ref("low", 0, 0, plain(), sixteenths(mag, n))
		l["aref, "+what] = array("low", 2, 1, []int{0, 0, 1, 0, 0, 1}, plain(), sixteenths(mag, n), turned(45))
		l["text, "+what] = label(flipped(), sixteenths(mag, n))
	}
	for _, n := range []int{1, -1, 16, 16 * 30, 16*45 + 1, 16*45 - 1, 8 * 45, 16*360 + 1, -16 * 60, 16 * 89, -16*45 + 1} {
		what := "an angle of sixteenths, so many: " + strconv.Itoa(n)
		l["sref, "+what] = ref("low", 0, 0, plain(), sixteenths(angle, n))
		l["aref, "+what] = array("low", 2, 1, []int{0, 0, 1, 0, 0, 1}, plain(), times(1, 1), sixteenths(angle, n))
		l["text, "+what] = label(plain(), sixteenths(angle, n))
	}
	return l
}

// P10.1: what is outside the domain is ErrFeature, whether it is laid or not, and would show or not, and ahead of ErrCount and of what can't be laid.
func TestStrangers(t *testing.T) {
	below := []api.Cell{cell("none"), cell("low", square(1))}
	far := cell("far", ref("low", high, 0))
	for what, x := range strangers() {
		for _, l := range [][]api.Cell{
			{cell("top", x)},
			{cell("top", square(1), x, square(2)), cell("more")},
			{cell("mid", square(1), x), cell("top", ref("mid", 0, 0), square(2))},
			{cell("mid", x), cell("top", array("mid", 2, 2, []int{0, 0, 9, 0, 0, 9}))},
			{cell("mid", ref("none", 0, 0), x), cell("other", ref("mid", 0, 0)), cell("top", ref("other", 0, 0))},
			{far, cell("top", x)},
			{cell("top", x), far},
		} {
			u := valid(t, lib(append(l, below...)...))
			for _, n := range []int{0, 1, api.MaxShapes} {
				fails(t, what, u, n, api.ErrFeature)
			}
		}
	}
}

// P10.1: two cells of one name are ErrFeature, though they are alike, or empty, or their names' bytes differ by a 0 at the end.
func TestSameNames(t *testing.T) {
	bare := cell("a")
	for _, l := range [][]api.Cell{
		{bare, bare},
		{cell("a", square(1)), cell("a", square(1))},
		{bare, cell("b", square(1)), bare},
		{bare, cell("b", ref("a", 0, 0)), bare},
		{cell("b", ref("a", 0, 0)), bare, cell("a", square(1))},
		{bare, bare, bare, cell("b"), cell("b")},
		{cell("ab"), cell("ab")},
		{bare, cell("a", ref("b", 0, 0)), cell("b")},
		{cell("a", ref("b", 0, 0)), bare, cell("b")},
		{cell("b"), cell("a", ref("b", 0, 0)), cell("a", ref("b", 0, 0)), cell("c", ref("a", 0, 0))},
	} {
		for _, n := range []int{0, api.MaxShapes} {
			fails(t, "one name", valid(t, lib(l...)), n, api.ErrFeature)
		}
	}
	fails(t, "one name, of none the cell", lib(bare, bare, cell("b", ref("c", 0, 0))), 1, api.ErrLost)
	comes(t, lib(bare, cell("A"), cell("aa"), cell("a_"), cell("a$"), cell("_a"), cell("aaa"), cell("A_")))
}

// P10.1: what lies in the domain just beside what doesn't.
func TestWithinDomain(t *testing.T) {
	leg := []int{0, 0, 10, 0}
	low, none := cell("low", square(1)), cell("none")
	for what, x := range map[string]api.Item{
		"a boundary of like points":  shape(5, 5, 5, 5, 5, 5, 5, 5),
		"the greatest ends":          line(leg, shorts(pathtype, 4), longs(width, 4), longs(bgnextn, -high), longs(endextn, -high)),
		"the greatest width":         line(leg, longs(width, high)),
		"a sharp turn":               line([]int{0, 0, 10000, 0, 0, 1}),
		"a direction there and back": line([]int{0, 0, 10, 0, 10, 1, 0, 1}, longs(width, 1)),
		"one column, one row":        array("low", 1, 1, []int{0, 0, 0, 0, 0, 0}),
		"many of nothing":            array("none", 30, 30, []int{0, 0, 0, 0, 0, 0}),
		"a small mag":                ref("low", 0, 0, plain(), api.Record{Kind: mag, Data: 5, Body: []byte{0, 0, 0, 0, 0, 0, 0, 1}}),
		"a great mag, of nothing":    ref("none", 0, 0, plain(), api.Record{Kind: mag, Data: 5, Body: []byte{0x7f, 255, 255, 255, 255, 255, 255, 255}}),
		"a text with a pathtype":     label(shorts(pathtype, 3), longs(width, -1), plain(), turned(45)),
		"a node of one point":        spot(1, 1),
		"a node that isn't closed":   spot(1, 1, 2, 2),
	} {
		u := valid(t, lib(low, none, cell("top", x)))
		want, e := reckoned(u)
		if e != api.OK {
			t.Fatal(what, e)
		}
		comes(t, u, want...)
	}
}

// P10.1: of what can't be laid the first place of the first shape tells which error it is.
func TestFirstPlace(t *testing.T) {
	refused := line([]int{0, 0, 20, 10}, longs(width, 10)) // turned by 45 degrees
	beyond := shape(0, 0, high, 0, high, high, 0, 0)
	fine := square(1)
	for _, x := range []struct {
		l    []api.Item
		want api.Errno
	}{
		{[]api.Item{refused}, api.ErrFeature},
		{[]api.Item{beyond}, api.ErrCoord},
		{[]api.Item{fine, refused, beyond}, api.ErrFeature},
		{[]api.Item{fine, beyond, refused}, api.ErrCoord},
		{[]api.Item{fine, fine, fine, label(), beyond, fine}, api.ErrCoord},
		{[]api.Item{line([]int{0, 0, 20, 10}), beyond, refused}, api.ErrCoord},
		{[]api.Item{line([]int{high, high, high, high - 10, high - 5, high - 20}, longs(width, 4))}, api.ErrCoord}, // the first place lies beyond, the one of the bend is refused
		{[]api.Item{line([]int{0, 0, 10, 0, 30, 10, high, high}, longs(width, 4))}, api.ErrFeature},                // the one of the bend, ahead of those beyond
		{[]api.Item{line([]int{0, 0, 20, 10, high, high}, longs(width, 4))}, api.ErrFeature},
		{[]api.Item{line([]int{high, high, high - 20, high - 10}, longs(width, 4))}, api.ErrFeature}, // both at one place
	} {
		u := valid(t, lib(cell("a", x.l...), cell("top", ref("a", 0, 0, plain(), turned(45)))))
		fails(t, "a place", u, api.MaxShapes, x.want)
		if _, e := reckoned(u); e != x.want {
			t.Fatal(e, x.want)
		}
		fails(t, "a place, n 0", u, 0, api.ErrCount)
	}
	pair := []api.Cell{cell("a", refused), cell("b", beyond)}
	turn := []api.Record{plain(), turned(135)}
	fails(t, "by the order of items", lib(append(pair, cell("top", ref("a", 0, 0, turn...), ref("b", 9, 9, turn...)))...), 2, api.ErrFeature)
	fails(t, "by the order of items", lib(append(pair, cell("top", ref("b", 9, 9, turn...), ref("a", 0, 0, turn...)))...), 2, api.ErrCoord)
	fails(t, "by the order of tops", lib(append(pair, cell("one", ref("a", 0, 0, turn...)), cell("two", ref("b", 9, 9, turn...)))...), 2, api.ErrFeature)
	fails(t, "by the order of tops", lib(append(pair, cell("one", ref("b", 9, 9, turn...)), cell("two", ref("a", 0, 0, turn...)))...), 2, api.ErrCoord)
	fails(t, "the move has √2", lib(cell("a", refused), cell("b", ref("a", 2, 0, plain(), turned(45))), cell("c", ref("b", 0, 0, plain(), turned(45)))), 1, api.ErrFeature)
	comes(t, lib(cell("a", refused), cell("b", ref("a", 0, 0, plain(), turned(45))), cell("c", ref("b", 2, 0, plain(), turned(-45)))), made(5, 6, 0, 4, 20, 14, 24, 6, 4, -4))
	late := array("b", 10, 10, []int{0, 0, high, 0, 0, 10}) // its last column lies beyond
	fails(t, "an array's first row", lib(cell("b", shape(0, 0, high/10+100, 0, 0, 1, 0, 0)), cell("top", late, ref("b", 0, 0))), 200, api.ErrCoord)
}

// fault is a mistake that a library may have, with the error that tells it.
type fault struct {
	want api.Errno
	do   func(u *api.Lib, n *int)
}

// faults stand in the order in which they are told.
func faults() []fault {
	add := func(l ...api.Cell) func(*api.Lib, *int) {
		return func(u *api.Lib, _ *int) { u.Cells = append(u.Cells, l...) }
	}
	turn := []api.Record{plain(), turned(45)}
	return []fault{
		{api.ErrArg, func(_ *api.Lib, n *int) { *n = -1 }},
		{api.ErrArg, func(_ *api.Lib, n *int) { *n = api.MaxShapes + 1 }},
		{api.ErrStream, func(u *api.Lib, _ *int) { u.Head = nil }},
		{api.ErrStream, add(cell("bad", api.Item{}))},
		{api.ErrLost, add(cell("lost", ref("nowhere", 0, 0)))},
		{api.ErrCycle, add(cell("x", ref("y", 0, 0)), cell("y", ref("x", 0, 0)))},
		{api.ErrFeature, add(cell("strange", shape(0, 0, 1, 0, 1, 1, 0, 1)))},
		{api.ErrFeature, add(cell("twin"), cell("twin"))},
		{api.ErrFeature, add(chain("deep", api.MaxNest+1)...)},
		{api.ErrCount, add(cell("m0", square(1)), cell("m1", array("m0", 32767, 32767, []int{0, 0, 1, 0, 0, 1})))},
		{api.ErrFeature, add(cell("p0", line([]int{0, 0, 20, 10}, longs(width, 10))), cell("p1", ref("p0", 0, 0, turn...)))},
		{api.ErrCoord, add(cell("q0", shape(1, 0, 0, 0, 0, 1, 1, 0)), cell("q1", ref("q0", high, 0)))},
	}
}

// P10.1: several of the errors at once: the first that applies is told.
func TestFirstError(t *testing.T) {
	all := faults()
	for set := range 1 << len(all) {
		u, n, want := lib(cell("fine", square(1))), api.MaxShapes, api.OK
		for i, f := range all {
			if set>>i&1 == 0 {
				continue
			}
			f.do(&u, &n)
			if want == api.OK {
				want = f.want
			}
		}
		if want == api.OK {
			comes(t, u, made(1, 2, 0, 0, 1, 0, 1, 1, 0, 1))
			continue
		}
		fails(t, "the set "+strconv.Itoa(set), u, n, want)
	}
}
