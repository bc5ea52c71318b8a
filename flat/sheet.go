package flat

import (
	"slices"

	"pellicle/api"
	"pellicle/kinds"
	"pellicle/octant"
)

const tooMany = api.MaxShapes + 1 // shapes, as far as they are counted: so a count stays an int

// piece is an item that may show shapes.
type piece interface {
	count(s *sheet) int                     // how many shapes
	lay(s *sheet, by octant.Turn) api.Errno // lays them down
}

// cell is what a cell has that shows shapes.
type cell struct{ pieces []piece }

// sheet is what cells come to, by their names, and what was laid down of it.
type sheet struct {
	cells  map[string]cell
	counts map[string]int // how many shapes
	shapes []api.Shape
}

// sheetOf asks what each cell comes to, once, those that others refer to at first.
func sheetOf(b book, order []string) *sheet {
	s := &sheet{cells: map[string]cell{}, counts: map[string]int{}}
	for _, name := range slices.Backward(order) {
		s.note(name, b.cells[name].items)
	}
	return s
}

// note notes what a cell comes to. Pieces that show nothing are left out: there may be so many copies of one that they can't be gone through.
func (s *sheet) note(name string, items []api.Item) {
	var pieces []piece
	for _, x := range items {
		p := s.pieceOf(x)
		if p == nil {
			continue
		}
		if n := p.count(s); n > 0 {
			pieces = append(pieces, p)
			s.counts[name] = min(s.counts[name]+n, tooMany)
		}
	}
	s.cells[name] = cell{pieces}
}

// pieceOf reads an item; there is nil for one that shows nothing.
func (s *sheet) pieceOf(x api.Item) piece {
	switch x.Fields[0].Kind {
	case kinds.Boundary:
		return areaOf(x, kinds.DataType)
	case kinds.Box:
		return areaOf(x, kinds.BoxType)
	case kinds.Path:
		return pathOf(x)
	case kinds.SRef, kinds.ARef:
		return s.shortened(referenceOf(x))
	}
	return nil
}

// shortened gives a reference past a cell that shows nothing but what one more reference does: so a long chain of these isn't gone through for each shape anew.
func (s *sheet) shortened(r reference) reference {
	pieces := s.cells[r.to].pieces
	if !r.once() || len(pieces) != 1 {
		return r
	}
	next, refers := pieces[0].(reference)
	if !refers || !next.once() {
		return r
	}
	turn := next.at(0, 0).Then(r.at(0, 0))
	return reference{next.to, 1, 1, func(int, int) octant.Turn { return turn }}
}

// total tells how many shapes cells come to.
func (s *sheet) total(names []string) int {
	n := 0
	for _, name := range names {
		n = min(n+s.counts[name], tooMany)
	}
	return n
}

// laid gives the shapes of cells that are laid where they are.
func (s *sheet) laid(names []string) ([]api.Shape, api.Errno) {
	for _, name := range names {
		if e := s.lay(name, octant.Turn{}); e != api.OK {
			return nil, e
		}
	}
	return s.shapes, api.OK
}

// lay lays down a cell's shapes.
func (s *sheet) lay(name string, by octant.Turn) api.Errno {
	for _, p := range s.cells[name].pieces {
		if e := p.lay(s, by); e != api.OK {
			return e
		}
	}
	return api.OK
}

// draw lays down a shape of so many places, which are told one by one.
func (s *sheet) draw(m mark, n int, at func(i int) (octant.Place, api.Errno)) api.Errno {
	pts := make([]api.Pt, n)
	for i := range pts {
		p, e := at(i)
		if e != api.OK { // two roots that have no field
			return api.ErrFeature
		}
		pts[i], e = octant.Grid(p)
		if e != api.OK {
			return e
		}
	}
	s.shapes = append(s.shapes, api.Shape{Layer: m.layer, Kind: m.kind, Pts: pts})
	return api.OK
}
