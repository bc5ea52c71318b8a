package flat_test

import (
	"strconv"
	"testing"

	"pellicle/api"
	"pellicle/flat"
)

// chain makes cells within one another, the innermost of these items, each but it an SREF of the one ahead.
func chain(name string, n int, l ...api.Item) []api.Cell {
	cells := []api.Cell{cell(name+"1", l...)}
	for i := 2; i <= n; i++ {
		cells = append(cells, cell(name+strconv.Itoa(i), ref(name+strconv.Itoa(i-1), 1, 0)))
	}
	return cells
}

// P10.1: n is from 0 to MaxShapes; any other is ErrArg, whatever the library.
func TestN(t *testing.T) {
	for _, u := range []api.Lib{lib(), {}, lib(cell("a", square(1))), lib(cell("a", ref("no", 0, 0))), lib(cell("a", ref("a", 0, 0))), lib(cell("a", shape(1, 2)))} {
		for _, n := range []int{least, low, -2, -1, api.MaxShapes + 1, api.MaxShapes + 2, high, 1 << 32, 1<<32 + 5, most} {
			fails(t, "n", u, n, api.ErrArg)
		}
	}
	for _, n := range []int{0, 1, 2, api.MaxShapes - 1, api.MaxShapes} {
		fails(t, "n", lib(), n, api.OK)
	}
}

// P10.1: more than n shapes are ErrCount: n just at and one below how many there are.
func TestCount(t *testing.T) {
	paths := []api.Item{line([]int{0, 0, 9, 0}, longs(width, 2)), line([]int{0, 0, 9, 0}), line([]int{1, 1}, longs(width, 2))}
	for _, x := range []struct {
		u api.Lib
		n int
	}{
		{lib(cell("a", square(1))), 1},
		{lib(cell("a", crate(0, 0, 1, 0, 1, 1, 0, 1, 0, 0))), 1},
		{lib(cell("a", paths...)), 1},
		{lib(cell("a", square(1)), cell("b", square(1)), cell("c", paths...)), 3},
		{lib(cell("a", square(1), label(), spot(1, 1), square(2))), 2},
		{lib(cell("a", square(1), square(2)), cell("b", ref("a", 0, 0), ref("a", 1, 1), square(3))), 5},
		{lib(cell("a", square(1), square(2)), cell("b", array("a", 3, 7, []int{0, 0, 9, 9, 8, 8}))), 42},
		{lib(cell("a", square(1)), cell("b", array("a", 3, 7, []int{0, 0, 9, 9, 8, 8})), cell("c", array("b", 5, 2, []int{0, 0, 9, 9, 8, 8}), ref("a", 1, 1)), cell("d", ref("a", 0, 0))), 212},
		{lib(cell("a", square(1)), cell("b", array("a", 250, 200, []int{0, 0, 250, 0, 0, 400})), cell("c", ref("b", 0, 0), ref("b", 0, 200))), api.MaxShapes},
		{lib(cell("a", square(1)), cell("b", array("a", 1, 32767, []int{0, 0, 250, 0, 0, 32767})), cell("c", array("b", 3, 1, []int{0, 0, 9, 0, 0, 9}), array("a", 1, 1699, []int{0, 0, 250, 0, 0, 32767}))), api.MaxShapes},
	} {
		l, e := flat.Of(valid(t, x.u), x.n)
		if e != api.OK || len(l) != x.n {
			t.Fatal(len(l), x.n, e)
		}
		fails(t, "one below", x.u, x.n-1, api.ErrCount)
		fails(t, "n 0", x.u, 0, api.ErrCount)
		if x.n < 1000 {
			for _, n := range []int{x.n + 1, api.MaxShapes} {
				if more, e := flat.Of(x.u, n); e != api.OK || len(more) != x.n {
					t.Fatal(len(more), x.n, e)
				}
			}
		}
	}
}

// P10.1: more than n shapes, far more than there may be at all, more than an int counts too.
func TestGreatCounts(t *testing.T) {
	all := []int{0, 0, high, 0, 0, high}
	u := lib(cell("a", square(1)), cell("b", array("a", 250, 400, all)))
	fails(t, "one more", lib(u.Cells[0], u.Cells[1], cell("c", square(1))), api.MaxShapes, api.ErrCount)
	fails(t, "one more within", lib(u.Cells[0], u.Cells[1], cell("c", ref("b", 0, 0), ref("a", 0, 0))), api.MaxShapes, api.ErrCount)
	fails(t, "2 at 50001", lib(cell("a", square(1), square(2)), cell("b", array("a", 16667, 3, all))), api.MaxShapes, api.ErrCount)
	fails(t, "2^30", valid(t, lib(cell("a", square(1)), cell("b", array("a", 32767, 32767, all)))), api.MaxShapes, api.ErrCount)
	for _, depth := range []int{2, 3, 5, 40, 63} { // 2^60 and more, by many ways past 2^63 and 2^64
		for _, columns := range []int{2, 256, 16384, 32767} {
			for _, rows := range []int{1, 2, 16384, 32767} {
				cells := []api.Cell{cell("x0", square(1))}
				for i := 1; i <= depth; i++ {
					cells = append(cells, cell("x"+strconv.Itoa(i), array("x"+strconv.Itoa(i-1), columns, rows, all)))
				}
				want := 1
				for range depth {
					want = min(want*columns*rows, api.MaxShapes+1)
				}
				if want <= api.MaxShapes { // what these come to others ask
					continue
				}
				for _, n := range []int{0, 1, api.MaxShapes - 1, api.MaxShapes} {
					fails(t, "too many", lib(cells...), n, api.ErrCount)
				}
				above := append(cells, cell("y", ref("x"+strconv.Itoa(depth), high, high)))
				if depth+2 > api.MaxNest {
					fails(t, "too many, too deep", lib(above...), api.MaxShapes, api.ErrFeature)
					continue
				}
				fails(t, "too many, beyond the grid", lib(above...), api.MaxShapes, api.ErrCount)
			}
		}
	}
}

// P10.1: so many copies of what shows nothing, one behind the other, come to nothing.
func TestManyOfNothing(t *testing.T) {
	all := []int{low, low, high, high, high, low}
	for _, l := range [][]api.Item{nil, {label()}, {spot(1, 1), line([]int{0, 0, 5, 5}), line([]int{5, 5}, longs(width, 5))}} {
		cells := []api.Cell{cell("x0", l...)}
		for i := 1; i < api.MaxNest; i++ {
			to := "x" + strconv.Itoa(i-1)
			cells = append(cells, cell("x"+strconv.Itoa(i), array(to, 32767, 32767, all), ref(to, 5, 5), array(to, 32767, 1, all, plain(), times(1000, 1), turned(45))))
		}
		u := valid(t, lib(cells...))
		fails(t, "many of nothing", u, 0, api.OK)
		cells[40].Items = append(cells[40].Items, square(3))
		cells = cells[:41]
		comes(t, lib(cells...), made(1, 2, 0, 0, 3, 0, 3, 3, 0, 3))
	}
}

// P10.1: 64 cells within one another may be, 65 are ErrFeature, whatever they show and on whatever way.
func TestNest(t *testing.T) {
	moved := made(1, 2, 63, 0, 64, 0, 64, 1, 63, 1)
	comes(t, valid(t, lib(chain("x", api.MaxNest, square(1))...)), moved)
	fails(t, "65", valid(t, lib(chain("x", api.MaxNest+1, square(1))...)), api.MaxShapes, api.ErrFeature)
	fails(t, "65 of nothing, n 0", lib(chain("x", api.MaxNest+1)...), 0, api.ErrFeature)
	fails(t, "64 of nothing, n 0", lib(chain("x", api.MaxNest)...), 0, api.OK)
	fails(t, "65 of too many", lib(chain("x", api.MaxNest+1, square(1))...), 0, api.ErrFeature)
	fails(t, "100", lib(chain("x", 100, square(1))...), api.MaxShapes, api.ErrFeature)
	back := chain("x", api.MaxNest+1, square(1))
	for i, j := 0, len(back)-1; i < j; i, j = i+1, j-1 {
		back[i], back[j] = back[j], back[i]
	}
	fails(t, "65, the top ahead", lib(back...), api.MaxShapes, api.ErrFeature)
	comes(t, lib(back[1:]...), moved)
	fails(t, "a second top", lib(append(chain("x", 3, square(1)), chain("y", api.MaxNest+1, square(1))...)...), api.MaxShapes, api.ErrFeature)
	comes(t, lib(append(chain("x", 3, square(1)), chain("y", api.MaxNest, square(1))...)...), made(1, 2, 2, 0, 3, 0, 3, 1, 2, 1), moved)
	short := append(chain("x", api.MaxNest, square(1)), cell("top", ref("x1", 0, 0))) // two lie within two tops
	comes(t, lib(short...), moved, made(1, 2, 0, 0, 1, 0, 1, 1, 0, 1))
	long := chain("x", api.MaxNest, square(1)) // and a cell that a short way reaches, too
	long[63].Items = append(long[63].Items, ref("x1", 9, 9))
	comes(t, lib(long...), moved, made(1, 2, 9, 9, 10, 9, 10, 10, 9, 10))
	long[63].Items = append([]api.Item{ref("x1", 9, 9)}, long[63].Items...)
	fails(t, "65 behind a short way", lib(append(long, cell("top", ref("x1", 0, 0), ref("x64", 0, 0)))...), api.MaxShapes, api.ErrFeature)
	fails(t, "65 by an array of nothing", lib(append(chain("x", api.MaxNest), cell("top", array("x64", 2, 2, []int{0, 0, 0, 0, 0, 0})))...), 0, api.ErrFeature)
	two := append(chain("x", 40, square(1)), chain("y", 24, ref("x40", 0, 0))...)
	comes(t, lib(two...), made(1, 2, 62, 0, 63, 0, 63, 1, 62, 1))
	fails(t, "40 and 25", lib(append(chain("x", 40, square(1)), chain("y", 25, ref("x40", 0, 0))...)...), api.MaxShapes, api.ErrFeature)
}

// P10.1, P1: so many cells within one another that no depth of calls would do.
func TestDeep(t *testing.T) {
	u := lib(chain("x", 300000, square(1))...)
	fails(t, "deep", u, api.MaxShapes, api.ErrFeature)
	u.Cells[0].Items = []api.Item{ref("x300000", 0, 0)}
	fails(t, "a deep cycle", u, api.MaxShapes, api.ErrCycle)
	u.Cells[0].Items = []api.Item{ref("no", 0, 0)}
	fails(t, "deep, and lost", u, api.MaxShapes, api.ErrLost)
}

// P10.1: a doubling of ways: each cell refers to the next one twice, which shows nothing, or little.
func TestManyWays(t *testing.T) {
	for _, shown := range []int{0, 16} { // at how many cells from the top there is a square
		var cells []api.Cell
		for i := range api.MaxNest {
			l := []api.Item{ref("x"+strconv.Itoa(i+1), 0, 0), ref("x"+strconv.Itoa(i+1), 1, 0)}
			if i == api.MaxNest-1 {
				l = nil
			}
			if shown > 0 && i == shown {
				l = append(l, square(1))
			}
			cells = append(cells, cell("x"+strconv.Itoa(i), l...))
		}
		u := valid(t, lib(cells...))
		if shown == 0 {
			fails(t, "nothing", u, 0, api.OK)
			continue
		}
		l := shapes(t, u)
		if len(l) != 1<<shown {
			t.Fatal(len(l))
		}
		fails(t, "one below", u, 1<<shown-1, api.ErrCount)
	}
}

// P10.1: a place may lie just on the last number of the grid, and not beyond it, after it is rounded.
func TestEdges(t *testing.T) {
	dot := func(x, y int) api.Cell { return cell("a", shape(x, y, x, y, x, y, x, y)) }
	point := func(x, y int) api.Shape { return made(1, 2, x, y, x, y, x, y) }
	half := []api.Record{plain(), times(1, 2)}
	for _, p := range [][2]int{{high, high}, {low, low}, {high, low}, {low, 0}, {0, high}} {
		comes(t, valid(t, lib(dot(p[0], p[1]))), point(p[0], p[1]))
		comes(t, lib(dot(0, 0), cell("b", ref("a", p[0], p[1]))), point(p[0], p[1]))
		comes(t, lib(dot(p[0], p[1]), cell("b", ref("a", 0, 0))), point(p[0], p[1]))
	}
	for _, x := range []struct {
		x, y, moveX, moveY int
		l                  []api.Record
		wantX, wantY       int
		fits               bool
	}{
		{1, 0, high, 0, nil, 0, 0, false},
		{0, 1, 0, high, nil, 0, 0, false},
		{-1, 0, low, 0, nil, 0, 0, false},
		{0, -1, 0, low, nil, 0, 0, false},
		{1, 0, high - 1, 0, nil, high, 0, true},
		{0, -1, 0, low + 1, nil, 0, low, true},
		{high, 0, low, 0, nil, -1, 0, true},
		{1, 0, high, 0, half, 0, 0, false}, // half way between the last number and one that is even
		{0, 1, 0, high, half, 0, 0, false},
		{-1, 0, low, 0, half, low, 0, true}, // and here the last one is even
		{0, -1, 0, low, half, 0, low, true},
		{-3, 0, low, 0, half, 0, 0, false},
		{1, 0, high, 0, []api.Record{plain(), times(7, 16)}, high, 0, true},
		{1, 0, high, 0, []api.Record{plain(), times(9, 16)}, 0, 0, false},
		{-1, 0, low, 0, []api.Record{plain(), times(9, 16)}, 0, 0, false},
		{low, low, 0, 0, []api.Record{plain(), turned(180)}, 0, 0, false},
		{low, low, -1, -1, []api.Record{plain(), turned(180)}, high, high, true},
		{high, high, 0, 0, []api.Record{plain(), turned(180)}, -high, -high, true},
		{0, low, 0, 0, []api.Record{flipped()}, 0, 0, false},
		{low, 0, 0, 0, []api.Record{flipped()}, low, 0, true},
		{high, high, 0, 0, []api.Record{plain(), turned(45)}, 0, 0, false},
		{1518500249, 1518500249, 0, 0, []api.Record{plain(), turned(45)}, 0, high, true}, // times √2: 2147483646.9
		{1518500250, 1518500250, 0, 0, []api.Record{plain(), turned(45)}, 0, 0, false},   // 2147483648.4
		{1 << 27, 0, 0, 0, []api.Record{plain(), times(16, 1)}, 0, 0, false},
		{1 << 27, 0, 0, 0, []api.Record{plain(), times(16, 1), turned(180)}, low, 0, true},
		{1, 1, 0, 0, []api.Record{plain(), {Kind: mag, Data: 5, Body: []byte{0x7f, 255, 255, 255, 255, 255, 255, 255}}}, 0, 0, false},
		{0, 0, high, low, []api.Record{plain(), {Kind: mag, Data: 5, Body: []byte{0x7f, 255, 255, 255, 255, 255, 255, 255}}}, high, low, true},
		{high, low, 3, 4, []api.Record{plain(), {Kind: mag, Data: 5, Body: []byte{0, 0, 0, 0, 0, 0, 0, 1}}}, 3, 4, true},
	} {
		u := valid(t, lib(dot(x.x, x.y), cell("b", ref("a", x.moveX, x.moveY, x.l...))))
		if !x.fits {
			fails(t, "beyond", u, api.MaxShapes, api.ErrCoord)
			continue
		}
		comes(t, u, point(x.wantX, x.wantY))
	}
	comes(t, lib(dot(high, 0), cell("b", ref("a", high, 0)), cell("c", ref("b", low, 0), ref("b", low, 5))), point(high-1, 0), point(high-1, 5)) // beyond on the way alone
	comes(t, lib(cell("a", line([]int{high - 10, 0, high, 0}, longs(width, 4)))), made(5, 6, high-10, 2, high, 2, high, -2, high-10, -2))
	fails(t, "beyond an end", lib(cell("a", line([]int{high - 10, 0, high, 0}, shorts(pathtype, 4), longs(width, 4), longs(endextn, 1)))), 1, api.ErrCoord)
	fails(t, "beyond a side", lib(cell("a", line([]int{0, high, 5, high}, longs(width, 2)))), 1, api.ErrCoord)
	comes(t, lib(cell("a", line([]int{0, low, 5, low}, longs(width, 1)))), made(5, 6, 0, low, 5, low, 5, low, 0, low)) // to the even ones
}
