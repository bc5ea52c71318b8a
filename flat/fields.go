package flat

import (
	"pellicle/api"
	"pellicle/frac"
	"pellicle/gds"
	"pellicle/kinds"
	"pellicle/real"
	"pellicle/record"
)

// What the records of an item say. It is one of a Valid tree, so that they are right, and the one that comes first tells which of the seven it is.

// body gives the body of an item's record of a kind, if there is one.
func body(x api.Item, kind byte) []byte {
	r, _ := gds.Field(x, kind)
	return r.Body
}

// short gives the number of a record of two bytes; without one 0.
func short(x api.Item, kind byte) int { return first(record.Shorts(body(x, kind))) }

// long gives the number of a record of four bytes; without one 0.
func long(x api.Item, kind byte) int { return first(record.Longs(body(x, kind))) }

// first gives the first of the numbers that were read; of none 0.
func first(l []int, _ api.Errno) int {
	if len(l) == 0 {
		return 0
	}
	return l[0]
}

// number gives the number of a record of a real; without one another number.
func number(x api.Item, kind byte, without int) frac.Rat {
	n, e := real.Decode(body(x, kind))
	if e != api.OK {
		return whole(without)
	}
	return n
}

// points gives an item's points.
func points(x api.Item) []api.Pt {
	l, _ := record.Longs(body(x, kinds.XY))
	var pts []api.Pt
	for i := 0; i+1 < len(l); i += 2 {
		pts = append(pts, api.Pt{X: l[i], Y: l[i+1]})
	}
	return pts
}

// copies gives how many columns and rows a reference has.
func copies(x api.Item) (columns, rows int) {
	l, _ := record.Shorts(body(x, kinds.ColRow))
	if len(l) < 2 { // an SREF
		return 1, 1
	}
	return l[0], l[1]
}
