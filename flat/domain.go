package flat

import (
	"slices"

	"pellicle/api"
	"pellicle/kinds"
)

const (
	leastRow = 4 // points of a BOUNDARY, the last one among them
	boxRow   = 5 // of a BOX
	arrayRow = 3 // of an AREF
)

// strange: has a cell something that is outside the domain?
func strange(c api.Cell) bool { return slices.ContainsFunc(c.Items, outside) }

// outside: is an item outside the domain? A STRANS, a MAG and an ANGLE count wherever they stand, also in a TEXT.
func outside(x api.Item) bool {
	if _, fits := transOf(x); !fits {
		return true
	}
	switch x.Fields[0].Kind {
	case kinds.Boundary:
		pts := points(x)
		return len(pts) < leastRow || !closed(pts)
	case kinds.Box:
		pts := points(x)
		return len(pts) != boxRow || !closed(pts)
	case kinds.Path:
		return pathOf(x).outside()
	case kinds.SRef:
		return len(points(x)) != 1
	case kinds.ARef:
		columns, rows := copies(x)
		return len(points(x)) != arrayRow || columns < 1 || rows < 1
	}
	return false
}

// closed: is the last point the first one?
func closed(pts []api.Pt) bool { return pts[0] == pts[len(pts)-1] }

// outside: is a path outside the domain? Its kind, its ends and its directions are asked by its outline, which refuses them just so, and with a width for one that has none.
func (p path) outside() bool {
	if p.width < 0 {
		return true
	}
	p.width = max(p.width, 1)
	_, e := p.places()
	return e == api.ErrArg || e == api.ErrFeature
}
