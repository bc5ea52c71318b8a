package flat

import (
	"slices"

	"pellicle/api"
	"pellicle/kinds"
	"pellicle/octant"
	"pellicle/outline"
)

// mark is what a shape is beside its points.
type mark struct{ layer, kind int }

// markOf reads it, the kind from a record that each drawn item calls its own way.
func markOf(x api.Item, kind byte) mark {
	return mark{short(x, kinds.Layer), short(x, kind)}
}

// area is a BOUNDARY or a BOX.
type area struct {
	mark
	pts []api.Pt // each once, so without the last one
}

func areaOf(x api.Item, kind byte) area {
	pts := points(x)
	return area{markOf(x, kind), pts[:len(pts)-1]}
}

func (a area) count(*sheet) int { return 1 }

func (a area) lay(s *sheet, by octant.Turn) api.Errno {
	return s.draw(a.mark, len(a.pts), func(i int) (octant.Place, api.Errno) {
		return by.At(a.pts[i]), api.OK
	})
}

// path is a PATH. Its places aren't kept: they take far more room than its points, and less time than to lay them.
type path struct {
	mark
	pts                     []api.Pt
	width, ends, begin, end int
}

func pathOf(x api.Item) path {
	return path{
		mark:  markOf(x, kinds.DataType),
		pts:   points(x),
		width: long(x, kinds.Width),
		ends:  short(x, kinds.PathType),
		begin: long(x, kinds.BgnExtn),
		end:   long(x, kinds.EndExtn),
	}
}

// places gives the places about the path.
func (p path) places() ([]octant.Place, api.Errno) {
	return outline.Of(p.pts, p.width, p.ends, p.begin, p.end)
}

// count is 0 without a width, or where all points are alike.
func (p path) count(*sheet) int {
	unlike := func(q api.Pt) bool { return q != p.pts[0] }
	if p.width == 0 || !slices.ContainsFunc(p.pts, unlike) {
		return 0
	}
	return 1
}

func (p path) lay(s *sheet, by octant.Turn) api.Errno {
	l, _ := p.places() // has no error: the path counts, and is in the domain
	return s.draw(p.mark, len(l), func(i int) (octant.Place, api.Errno) {
		return by.Far(l[i])
	})
}
