package flat_test

import (
	"bytes"
	"math/big"
	"math/rand/v2"
	"slices"
	"testing"

	"pellicle/api"
	"pellicle/flat"
	"pellicle/gds"
)

const (
	least = -1 << 63  // the least int
	most  = 1<<63 - 1 // the greatest one
	low   = -1 << 31  // the grid's least coordinate
	high  = 1<<31 - 1 // its greatest one
)

// The kinds of records, as chapter 6 numbers them.
const (
	boundary = 0x08
	path     = 0x09
	sref     = 0x0a
	aref     = 0x0b
	text     = 0x0c
	layer    = 0x0d
	datatype = 0x0e
	width    = 0x0f
	xy       = 0x10
	sname    = 0x12
	colrow   = 0x13
	node     = 0x15
	strans   = 0x1a
	mag      = 0x1b
	angle    = 0x1c
	pathtype = 0x21
	box      = 0x2d
	bgnextn  = 0x30
	endextn  = 0x31
)

// chance gives numbers that look like chance, the same ones each time.
func chance() *rand.Rand { return rand.New(rand.NewPCG(10, 31415)) }

// numbers gives the bytes of numbers of so many bytes each, the highest first.
func numbers(size int, l ...int) []byte {
	var b []byte
	for _, n := range l {
		for k := size - 1; k >= 0; k-- {
			b = append(b, byte(n>>(8*k)))
		}
	}
	return b
}

func shorts(kind byte, l ...int) api.Record {
	return api.Record{Kind: kind, Data: 2, Body: numbers(2, l...)}
}

func longs(kind byte, l ...int) api.Record {
	return api.Record{Kind: kind, Data: 3, Body: numbers(4, l...)}
}

// letters makes a record of a text.
func letters(kind byte, s string) api.Record {
	b := []byte(s)
	if len(b)%2 == 1 {
		b = append(b, 0)
	}
	return api.Record{Kind: kind, Data: 6, Body: b}
}

// sixteenths makes a record of the real that is n/16.
func sixteenths(kind byte, n int) api.Record {
	b := numbers(8, max(n, -n))
	b[0] = 77
	if n < 0 {
		b[0] |= 0x80
	}
	return api.Record{Kind: kind, Data: 5, Body: b}
}

// times makes a MAG.
func times(n, d int) api.Record { return sixteenths(mag, 16*n/d) }

// turned makes an ANGLE.
func turned(degrees int) api.Record { return sixteenths(angle, 16*degrees) }

// bits makes a STRANS.
func bits(n int) api.Record {
	return api.Record{Kind: strans, Data: 1, Body: numbers(2, n)}
}

// flipped is a STRANS of the highest bit, plain one without any.
func flipped() api.Record { return bits(0x8000) }
func plain() api.Record   { return bits(0) }

// item makes an element of its records behind the first one.
func item(kind byte, l ...api.Record) api.Item {
	return api.Item{Fields: append([]api.Record{{Kind: kind}}, l...)}
}

// shape makes a BOUNDARY, of the layer 1 and the kind 2.
func shape(l ...int) api.Item {
	return item(boundary, shorts(layer, 1), shorts(datatype, 2), longs(xy, l...))
}

// crate makes a BOX, of the layer 3 and the kind 4.
func crate(l ...int) api.Item {
	return item(box, shorts(layer, 3), shorts(0x2e, 4), longs(xy, l...))
}

// line makes a PATH, of the layer 5 and the kind 6, of the records between these and its points.
func line(pts []int, l ...api.Record) api.Item {
	l = append([]api.Record{shorts(layer, 5), shorts(datatype, 6)}, l...)
	return item(path, append(l, longs(xy, pts...))...)
}

// label makes a TEXT, spot a NODE.
func label(l ...api.Record) api.Item {
	l = append([]api.Record{shorts(layer, 7), shorts(0x16, 8)}, l...)
	return item(text, append(l, longs(xy, 1, 1), letters(0x19, "hello"))...)
}

func spot(l ...int) api.Item {
	return item(node, shorts(layer, 9), shorts(0x2a, 10), longs(xy, l...))
}

// ref makes an SREF, of the records between its name and its points.
func ref(to string, x, y int, l ...api.Record) api.Item {
	l = append([]api.Record{letters(sname, to)}, l...)
	return item(sref, append(l, longs(xy, x, y))...)
}

// array makes an AREF.
func array(to string, columns, rows int, pts []int, l ...api.Record) api.Item {
	l = append([]api.Record{letters(sname, to)}, l...)
	return item(aref, append(l, shorts(colrow, columns, rows), longs(xy, pts...))...)
}

// square is a shape of so long a side, its first corner at 0 0.
func square(n int) api.Item { return shape(0, 0, n, 0, n, n, 0, n, 0, 0) }

func cell(name string, l ...api.Item) api.Cell {
	return api.Cell{Head: []api.Record{shorts(0x05, make([]int, 12)...), letters(0x06, name)}, Items: l}
}

func lib(l ...api.Cell) api.Lib {
	head := []api.Record{shorts(0x00, 600), shorts(0x01, make([]int, 12)...), letters(0x02, "lib"), {Kind: 0x03, Data: 5, Body: make([]byte, 16)}}
	return api.Lib{Head: head, Cells: l}
}

// row makes points of their coordinates.
func row(l ...int) []api.Pt {
	var pts []api.Pt
	for i := 0; i+1 < len(l); i += 2 {
		pts = append(pts, api.Pt{X: l[i], Y: l[i+1]})
	}
	return pts
}

// made makes a shape.
func made(layer, kind int, l ...int) api.Shape {
	return api.Shape{Layer: layer, Kind: kind, Pts: row(l...)}
}

func sameShape(a, b api.Shape) bool {
	return a.Layer == b.Layer && a.Kind == b.Kind && slices.Equal(a.Pts, b.Pts)
}

// shapes asks for a library that has some, with as many as there may be.
func shapes(t *testing.T, u api.Lib) []api.Shape {
	t.Helper()
	before := copied(u)
	l, e := flat.Of(u, api.MaxShapes)
	if e != api.OK {
		t.Fatalf("error %d, want shapes", e)
	}
	if !alike(u, before) {
		t.Fatal("a library was changed")
	}
	return l
}

// comes asks that a library comes to such shapes, in that order.
func comes(t *testing.T, u api.Lib, want ...api.Shape) {
	t.Helper()
	same(t, "shapes", shapes(t, u), want)
}

// same asks that two lists have the same shapes.
func same(t *testing.T, what string, got, want []api.Shape) {
	t.Helper()
	if len(got) != len(want) {
		t.Fatalf("%s: %d, want %d", what, len(got), len(want))
	}
	for i, a := range got {
		if !sameShape(a, want[i]) {
			t.Fatalf("%s, the one at %d: %v, want %v", what, i, brief(a), brief(want[i]))
		}
	}
}

// brief is a shape without most of its points, for a message.
func brief(a api.Shape) api.Shape {
	a.Pts = a.Pts[:min(len(a.Pts), 16)]
	return a
}

// fails asks for an error, and no shapes beside it.
func fails(t *testing.T, what string, u api.Lib, n int, want api.Errno) {
	t.Helper()
	before := copied(u)
	l, e := flat.Of(u, n)
	if e != want || len(l) > 0 {
		t.Fatalf("%s: error %d, want %d, %d shapes", what, e, want, len(l))
	}
	if !alike(u, before) {
		t.Fatalf("%s: the library was changed", what)
	}
}

// valid asks chapter 7 for what these tests make of it.
func valid(t *testing.T, u api.Lib) api.Lib {
	t.Helper()
	if !gds.Valid(u) {
		t.Fatal("a test's library isn't Valid")
	}
	return u
}

func copiedRecords(l []api.Record) []api.Record {
	var c []api.Record
	for _, r := range l {
		c = append(c, api.Record{Kind: r.Kind, Data: r.Data, Body: bytes.Clone(r.Body)})
	}
	return c
}

// copied gives the same library in new memory.
func copied(u api.Lib) api.Lib {
	v := api.Lib{Head: copiedRecords(u.Head)}
	for _, c := range u.Cells {
		d := api.Cell{Head: copiedRecords(c.Head)}
		for _, x := range c.Items {
			d.Items = append(d.Items, api.Item{Fields: copiedRecords(x.Fields), Props: copiedRecords(x.Props)})
		}
		v.Cells = append(v.Cells, d)
	}
	return v
}

func alikeRecords(a, b []api.Record) bool {
	return slices.EqualFunc(a, b, func(x, y api.Record) bool {
		return x.Kind == y.Kind && x.Data == y.Data && bytes.Equal(x.Body, y.Body)
	})
}

// alike tells whether two libraries are the same.
func alike(u, v api.Lib) bool {
	return alikeRecords(u.Head, v.Head) && slices.EqualFunc(u.Cells, v.Cells, func(c, d api.Cell) bool {
		return alikeRecords(c.Head, d.Head) && slices.EqualFunc(c.Items, d.Items, func(x, y api.Item) bool {
			return alikeRecords(x.Fields, y.Fields) && alikeRecords(x.Props, y.Props)
		})
	})
}

// ratio is n/d by math/big.
func ratio(n, d int) *big.Rat { return big.NewRat(int64(n), int64(d)) }
