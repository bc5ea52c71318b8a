package flat

import (
	"pellicle/api"
	"pellicle/frac"
	"pellicle/kinds"
	"pellicle/octant"
	"pellicle/zed"
)

const (
	eighth  = 45       // degrees of an eighth
	eighths = 8        // of a whole turn
	flipped = -1 << 15 // a STRANS, read as a number, of which the highest bit alone is set
)

// reference is a cell that is laid in columns and rows.
type reference struct {
	to            string
	columns, rows int
	at            func(column, row int) octant.Turn // how a copy is laid
}

// referenceOf reads an SREF or an AREF.
func referenceOf(x api.Item) reference {
	to, _ := referred(x)
	a, _ := transOf(x)
	pts := points(x)
	columns, rows := copies(x)
	var across, down vector
	if len(pts) == arrayRow {
		across, down = toward(pts[0], pts[1]).over(columns), toward(pts[0], pts[2]).over(rows)
	}
	start := toward(api.Pt{}, pts[0])
	at := func(column, row int) octant.Turn {
		return a.turn(start.plus(across.times(column)).plus(down.times(row)))
	}
	return reference{to, columns, rows, at}
}

// count is at most some 2^47, as columns and rows are numbers of two bytes.
func (r reference) count(s *sheet) int { return r.columns * r.rows * s.counts[r.to] }

func (r reference) lay(s *sheet, by octant.Turn) api.Errno {
	for row := range r.rows {
		for column := range r.columns {
			if e := s.lay(r.to, r.at(column, row).Then(by)); e != api.OK {
				return e
			}
		}
	}
	return api.OK
}

// once: has it one copy alone?
func (r reference) once() bool { return r.columns == 1 && r.rows == 1 }

// trans is how a reference flips, enlarges and turns, ahead of its move.
type trans struct {
	flip   bool
	mag    frac.Rat
	octant int
}

// transOf reads it of any item, if it is in the domain.
func transOf(x api.Item) (trans, bool) {
	bits := short(x, kinds.STrans)
	mag := number(x, kinds.Mag, 1)
	turns, _ := number(x, kinds.Angle, 0).Div(whole(eighth))
	if bits != 0 && bits != flipped || mag.Sign() <= 0 || turns.Cmp(frac.Whole(turns.Floor())) != 0 {
		return trans{}, false
	}
	_, rest, _ := turns.Floor().Floor(zed.Of(eighths))
	n, _ := rest.Small()
	return trans{bits == flipped, mag, n}, true
}

// turn gives the Turn that moves so.
func (a trans) turn(move vector) octant.Turn {
	turn, _ := octant.Make(a.flip, a.mag, a.octant, move.x, move.y)
	return turn
}
