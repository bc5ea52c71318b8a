package flat

import (
	"pellicle/api"
	"pellicle/frac"
	"pellicle/zed"
)

// vector is a way from one point to another.
type vector struct{ x, y frac.Rat }

// toward gives the way from a point of the grid to another one.
func toward(p, q api.Pt) vector { return vector{whole(q.X - p.X), whole(q.Y - p.Y)} }

func (v vector) plus(w vector) vector { return vector{v.x.Add(w.x), v.y.Add(w.y)} }

func (v vector) times(n int) vector { return vector{v.x.Mul(whole(n)), v.y.Mul(whole(n))} }

// over divides by a number from 1 on.
func (v vector) over(n int) vector {
	x, _ := v.x.Div(whole(n))
	y, _ := v.y.Div(whole(n))
	return vector{x, y}
}

// whole gives a whole number.
func whole(n int) frac.Rat { return frac.Whole(zed.Of(n)) }
