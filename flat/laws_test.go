package flat_test

import (
	"bytes"
	"math/rand/v2"
	"slices"
	"strconv"
	"testing"

	"pellicle/api"
	"pellicle/flat"
	"pellicle/outline"
)

// anyWay makes the records of a reference between its name and its points.
func anyWay(c *rand.Rand) []api.Record {
	l := []api.Record{bits(0x8000 * c.IntN(2)), sixteenths(mag, 1+c.IntN(40)), turned(45 * (c.IntN(40) - 20))}
	return l[:c.IntN(4)]
}

// anyRow makes the coordinates of n points.
func anyRow(c *rand.Rand, n int) []int {
	var l []int
	for range 2 * n {
		l = append(l, c.IntN(400)-200)
	}
	return l
}

// anyLine makes a PATH that is in the domain.
func anyLine(c *rand.Rand) api.Item {
	for {
		l := anyRow(c, 1+c.IntN(5))
		if c.IntN(2) == 0 { // legs by eighths, which any turn takes
			for i := 2; i < len(l); i += 2 {
				d := [][2]int{{1, 0}, {1, 1}, {0, 1}, {-1, 1}}[c.IntN(4)]
				l[i], l[i+1] = l[i-2]+d[0]*c.IntN(90), l[i-1]+d[1]*c.IntN(90)
			}
		}
		if _, e := outline.Of(row(l...), 1, 0, 0, 0); e == api.ErrFeature {
			continue
		}
		more := []api.Record{shorts(pathtype, []int{0, 1, 2, 4}[c.IntN(4)]), longs(width, c.IntN(30)), longs(bgnextn, c.IntN(40)-20), longs(endextn, c.IntN(40)-20)}
		return line(l, more[c.IntN(2):1+c.IntN(4)]...)
	}
}

// anyItem makes an item that is in the domain, of those of no reference.
func anyItem(c *rand.Rand) api.Item {
	l := anyRow(c, 3+c.IntN(5))
	switch c.IntN(8) {
	case 0:
		return label(anyWay(c)...)
	case 1:
		return spot(l...)
	case 2:
		return crate(append(l[:6], 1, 2, l[0], l[1])...)
	case 3, 4, 5:
		return anyLine(c)
	}
	return shape(append(l, l[0], l[1])...)
}

// anyLib makes a library that is in the domain, of a few cells that refer to one another, and of no more shapes than one can wait for.
func anyLib(c *rand.Rand) api.Lib {
	var cells []api.Cell
	var counts []int // at most, of the cells' shapes
	for i := range 1 + c.IntN(6) {
		var l []api.Item
		n := 0
		for range c.IntN(4) {
			at := c.IntN(max(i, 1))
			to, columns, rows := "x"+strconv.Itoa(at), 1+c.IntN(3), 1+c.IntN(3)
			kind := c.IntN(4)
			switch {
			case i > 0 && kind == 0:
				l = append(l, ref(to, c.IntN(200)-100, c.IntN(200)-100, anyWay(c)...))
				n += counts[at]
			case i > 0 && kind == 1 && counts[at]*columns*rows < 300:
				l = append(l, array(to, columns, rows, anyRow(c, 3), anyWay(c)...))
				n += counts[at] * columns * rows
			default:
				l = append(l, anyItem(c))
				n++
			}
		}
		cells = append(cells, cell("x"+strconv.Itoa(i), l...))
		counts = append(counts, n)
	}
	c.Shuffle(len(cells), func(i, j int) { cells[i], cells[j] = cells[j], cells[i] })
	return lib(cells...)
}

// P10.1: libraries by chance come to what the second reckoning says, and no less than so many shapes may be.
func TestByChance(t *testing.T) {
	c := chance()
	told := map[api.Errno]int{}
	for range 1500 {
		u := valid(t, anyLib(c))
		want, e := reckoned(u)
		told[e]++
		if e != api.OK {
			fails(t, "by chance", u, api.MaxShapes, e)
			continue
		}
		comes(t, u, want...)
		if l, e := flat.Of(u, len(want)); e != api.OK || len(l) != len(want) {
			t.Fatal(len(l), len(want), e)
		}
		if len(want) > 0 {
			fails(t, "one below", u, len(want)-1, api.ErrCount)
		}
	}
	if told[api.OK] < 500 || told[api.ErrFeature] < 50 {
		t.Fatal("a poor choice", told)
	}
}

// movedBy gives shapes moved.
func movedBy(l []api.Shape, x, y int) []api.Shape {
	var out []api.Shape
	for _, a := range l {
		b := api.Shape{Layer: a.Layer, Kind: a.Kind}
		for _, p := range a.Pts {
			b.Pts = append(b.Pts, api.Pt{X: p.X + x, Y: p.Y + y})
		}
		out = append(out, b)
	}
	return out
}

// P10.2: a cell that is referred to by a new top alone, moved, has all shapes moved. (By even numbers: a place half way between two of the grid goes to the even one, wherever it is.)
func TestMoved(t *testing.T) {
	c := chance()
	n := 0
	for range 600 {
		u := anyLib(c)
		l, e := flat.Of(u, api.MaxShapes)
		var tops []api.Item
		x, y := 2*c.IntN(4000)-4000, 2*c.IntN(4000)-4000
		for _, d := range u.Cells {
			name := nameOf(d.Head[1].Body)
			if !slices.ContainsFunc(u.Cells, func(d api.Cell) bool {
				return slices.ContainsFunc(d.Items, func(x api.Item) bool {
					b := field(x, sname)
					return b != nil && nameOf(b) == name
				})
			}) {
				tops = append(tops, ref(name, x, y))
			}
		}
		u.Cells = append(u.Cells, cell("top", tops...))
		if e != api.OK {
			fails(t, "moved", u, api.MaxShapes, e)
			continue
		}
		comes(t, u, movedBy(l, x, y)...)
		n += len(l)
	}
	if n < 1000 {
		t.Fatal("a poor choice", n)
	}
}

// P10.2: by odd numbers too, where no place is half way.
func TestMovedOddly(t *testing.T) {
	u := lib(cell("a", square(7), crate(0, 0, 9, 0, 9, 5, 1, 5, 0, 0), line([]int{3, 4, 10, 11, 10, 100}, longs(width, 6)), line([]int{3, 4, 23, 14, 10, 100}, shorts(pathtype, 1), longs(width, 6))))
	want := shapes(t, u)
	for _, move := range [][2]int{{0, 0}, {1, 0}, {0, 1}, {-3, 7}, {12345, -54321}, {-2000000001, 2000000001}} {
		comes(t, lib(u.Cells[0], cell("top", ref("a", move[0], move[1]))), movedBy(want, move[0], move[1])...)
		comes(t, lib(cell("top", ref("a", move[0], move[1])), u.Cells[0]), movedBy(want, move[0], move[1])...)
	}
	half := lib(cell("a", shape(0, 0, 1, 0, 3, 1, 0, 0)), cell("b", ref("a", 0, 0, plain(), times(1, 2))))
	comes(t, half, made(1, 2, 0, 0, 0, 0, 2, 0))                                                  // 1/2 and 3/2 go to 0 and 2
	comes(t, lib(append(half.Cells, cell("c", ref("b", 1, 0)))...), made(1, 2, 1, 0, 2, 0, 2, 0)) // 3/2 and 5/2 both to 2
	comes(t, lib(append(half.Cells, cell("c", ref("b", 2, 0)))...), made(1, 2, 2, 0, 2, 0, 4, 0))
}

// P10.2: an AREF has the shapes of its SREFs one by one.
func TestArrayOneByOne(t *testing.T) {
	c := chance()
	for range 300 {
		columns, rows := 1+c.IntN(5), 1+c.IntN(5)
		px, py, ax, ay, bx, by := c.IntN(99), c.IntN(99), c.IntN(50)-25, c.IntN(50)-25, c.IntN(50)-25, c.IntN(50)-25
		l := anyWay(c)
		var refs []api.Item
		for k := range rows {
			for i := range columns {
				refs = append(refs, ref("x0", px+ax*i+bx*k, py+ay*i+by*k, l...))
			}
		}
		u := anyLib(c)
		v := lib(append(slices.Clone(u.Cells), cell("top", refs...))...)
		u.Cells = append(u.Cells, cell("top", array("x0", columns, rows, []int{px, py, px + ax*columns, py + ay*columns, px + bx*rows, py + by*rows}, l...)))
		want, e := flat.Of(v, api.MaxShapes)
		if e != api.OK {
			fails(t, "an array", u, api.MaxShapes, e)
			continue
		}
		comes(t, u, want...)
	}
}

// spoil turns all bits of a library's bodies, and drops what stands in its lists.
func spoil(u api.Lib) {
	records := func(l []api.Record) {
		for _, r := range l {
			for i := range r.Body {
				r.Body[i] ^= 0xff
			}
		}
		clear(l)
	}
	records(u.Head)
	for _, c := range u.Cells {
		records(c.Head)
		for _, x := range c.Items {
			records(x.Fields)
			records(x.Props)
		}
		clear(c.Items)
	}
	clear(u.Cells)
}

// copiedShapes gives the same shapes in new memory.
func copiedShapes(l []api.Shape) []api.Shape { return movedBy(l, 0, 0) }

// P10.3: an answer hangs on nothing that was handed in, and on no other answer.
func TestAnswersAreNew(t *testing.T) {
	c := chance()
	for range 200 {
		u := anyLib(c)
		first, e := flat.Of(u, api.MaxShapes)
		if e != api.OK {
			continue
		}
		want := copiedShapes(first)
		before := copied(u)
		second, _ := flat.Of(u, api.MaxShapes)
		for _, a := range first {
			clear(a.Pts[:cap(a.Pts)])
		}
		clear(first[:cap(first)])
		if !alike(u, before) {
			t.Fatal("a library hangs on its shapes")
		}
		spoil(u)
		same(t, "behind a spoilt library and answer", second, want)
		for i := range second {
			grown := append(second[i].Pts, api.Pt{X: 77, Y: 77})
			clear(grown)
			if cap(second[i].Pts) > len(second[i].Pts) {
				second[i].Pts = slices.Clone(want[i].Pts)
			}
		}
		for i, a := range second {
			if !sameShape(a, want[i]) {
				clear(a.Pts)
				for k, b := range second {
					if k != i && !sameShape(b, want[k]) {
						t.Fatal("two shapes share memory")
					}
				}
			}
		}
	}
}

// P10.3: of one answer no shape's points share memory with another one's, those of many copies of one item neither.
func TestShapesApart(t *testing.T) {
	u := lib(cell("a", square(4), crate(0, 0, 1, 0, 1, 1, 0, 1, 0, 0), line([]int{0, 0, 9, 0}, longs(width, 2))), cell("top", array("a", 3, 3, []int{0, 0, 0, 0, 0, 0}), ref("a", 0, 0)))
	want := shapes(t, u)
	for i := range want {
		l := shapes(t, u)
		clear(append(l[i].Pts, api.Pt{X: 5})[:len(l[i].Pts)+1])
		clear(l[i].Pts[:cap(l[i].Pts)])
		for k, a := range l {
			if k != i && !sameShape(a, want[k]) {
				t.Fatal(i, k, a)
			}
		}
	}
}

// behind fills the room behind a list's end.
func behind(l []api.Record) []api.Record {
	return append(l, api.Record{Kind: 0x77, Data: 7, Body: []byte{7}})[:len(l)]
}

// kept tells whether it is still so.
func kept(l []api.Record) bool {
	r := l[:len(l)+1][len(l)]
	return r.Kind == 0x77 && r.Data == 7 && bytes.Equal(r.Body, []byte{7})
}

// P10.3: the library isn't changed, nor the room behind its lists.
func TestRoomBehind(t *testing.T) {
	c := chance()
	for range 200 {
		u := anyLib(c)
		var l []*[]api.Record
		for i := range u.Cells {
			d := &u.Cells[i]
			l = append(l, &d.Head)
			for k := range d.Items {
				l = append(l, &d.Items[k].Fields, &d.Items[k].Props)
			}
			d.Items = append(d.Items, api.Item{Fields: []api.Record{{Kind: 0x66}}})[:len(d.Items)]
		}
		for _, list := range append(l, &u.Head) {
			for i, r := range *list {
				(*list)[i].Body = append(r.Body, 0x55)[:len(r.Body)]
			}
			*list = behind(*list)
		}
		u.Cells = append(u.Cells, cell("behind"))[:len(u.Cells)]
		before := copied(u)
		flat.Of(u, api.MaxShapes)
		flat.Of(u, 0)
		if !alike(u, before) {
			t.Fatal("a library was changed")
		}
		for _, list := range append(l, &u.Head) {
			for _, r := range *list {
				if r.Body[:len(r.Body)+1][len(r.Body)] != 0x55 {
					t.Fatal("the room behind a body was changed")
				}
			}
			if !kept(*list) {
				t.Fatal("the room behind a list was changed")
			}
		}
		for _, d := range u.Cells {
			if d.Items[:len(d.Items)+1][len(d.Items)].Fields[0].Kind != 0x66 {
				t.Fatal("the room behind the items was changed")
			}
		}
		if nameOf(u.Cells[:len(u.Cells)+1][len(u.Cells)].Head[1].Body) != "behind" {
			t.Fatal("the room behind the cells was changed")
		}
	}
}

// The rule on answers: the same arguments, the same answers, however a map is gone through.
func TestAskedAgain(t *testing.T) {
	c := chance()
	for range 100 {
		u := anyLib(c)
		want, e := flat.Of(u, api.MaxShapes)
		for range 5 {
			l, f := flat.Of(copied(u), api.MaxShapes)
			if e != f {
				t.Fatal(e, f)
			}
			same(t, "asked again", l, want)
		}
	}
}

// P1: whatever is done to a library's bytes and lists, the call ends, and does not panic; what it answers is an error alone, or shapes alone.
func TestAllCallsEnd(t *testing.T) {
	c := chance()
	told := map[api.Errno]int{}
	for range 4000 {
		u := anyLib(c)
		for range 1 + c.IntN(3) {
			mangle(c, &u)
		}
		n := []int{api.MaxShapes, api.MaxShapes, 1, 0, c.IntN(40) - 2}[c.IntN(5)]
		before := copied(u)
		l, e := flat.Of(u, n)
		told[e]++
		if e != api.OK && len(l) > 0 || len(l) > max(n, 0) {
			t.Fatal(e, len(l))
		}
		if !alike(u, before) {
			t.Fatal("a library was changed")
		}
	}
	for _, e := range []api.Errno{api.OK, api.ErrArg, api.ErrStream, api.ErrLost, api.ErrCycle, api.ErrFeature, api.ErrCount, api.ErrCoord} {
		if told[e] == 0 {
			t.Fatal("a poor choice", told)
		}
	}
	for _, u := range []api.Lib{{}, {Head: []api.Record{}, Cells: []api.Cell{}}, {Cells: make([]api.Cell, 1000)}, lib(make([]api.Cell, 1000)...), lib(cell("a", make([]api.Item, 1000)...))} {
		for _, n := range []int{least, -1, 0, 1, api.MaxShapes, most} {
			flat.Of(u, n)
		}
	}
}

// mangle changes something of a library.
func mangle(c *rand.Rand, u *api.Lib) {
	d := &u.Cells[c.IntN(len(u.Cells))]
	if c.IntN(12) == 0 || len(d.Items) == 0 {
		switch c.IntN(4) {
		case 0:
			u.Cells = append(u.Cells, *d)
		case 1:
			u.Cells = slices.Delete(u.Cells, 0, min(1, len(u.Cells)-1))
		case 2:
			d.Items = append(d.Items, ref("x"+strconv.Itoa(c.IntN(6)), high, 0))
		case 3:
			d.Items = append(d.Items, array("x"+strconv.Itoa(c.IntN(6)), 1+c.IntN(60), 1+c.IntN(60), []int{0, 0, low, 0, high, 0}))
		}
		return
	}
	x := &d.Items[c.IntN(len(d.Items))]
	i := c.IntN(len(x.Fields))
	r := &x.Fields[i]
	switch c.IntN(14) {
	case 0:
		x.Fields = slices.Delete(x.Fields, i, i+1)
		if len(x.Fields) == 0 {
			d.Items = nil
		}
	case 1:
		r.Kind = byte(c.IntN(64))
	case 2:
		r.Data = byte(c.IntN(8))
	case 3:
		r.Body = r.Body[:c.IntN(len(r.Body)+1)]
	case 4:
		x.Fields = slices.Insert(x.Fields, i, *r)
	default:
		if len(r.Body) > 0 {
			r.Body[c.IntN(len(r.Body))] ^= 1 << c.IntN(8)
		}
	}
}
