package outline

import (
	"slices"

	"pellicle/api"
	"pellicle/frac"
	"pellicle/octant"
	"pellicle/surd"
	"pellicle/zed"
)

// vector is a way from one point to another.
type vector struct{ x, y frac.Rat }

// path is a path that has places.
type path struct {
	corners []api.Pt
	legs    []direction // from each corner to the one behind it
	half    frac.Rat    // of its width
	round   bool
}

// places gives the path's places, if it goes on so far beyond its first and its last corner.
func (a path) places(begin, end frac.Rat) []octant.Place {
	last := len(a.legs)
	from := a.ending(a.corners[0], a.legs[0].opposite(), begin)
	to := a.ending(a.corners[last], a.legs[last-1], end)
	var left, right []octant.Place
	for i := 1; i < last; i++ {
		left = append(left, a.bend(i, a.half))
		right = append(right, a.bend(i, a.half.Neg()))
	}
	slices.Reverse(right)
	n := len(from) - 1 // the right of the way back is the path's left, with which its places begin
	return slices.Concat(from[n:], left, to, right, from[:n])
}

// bend gives the place beside a corner that lies so far left of both its legs' lines.
func (a path) bend(i int, far frac.Rat) octant.Place {
	d, e := a.legs[i-1], a.legs[i]
	by := over(far, d.cross(e)) // isn't divided by 0: the legs go neither the same nor opposite ways
	return place(a.corners[i], d.square(), e.square(), e.times(by), d.times(by.Neg()))
}

// ending gives the places about an end of the path, from the left to the right, seen along the direction that leads out of the path there.
func (a path) ending(p api.Pt, d direction, beyond frac.Rat) []octant.Place {
	m, two := d.square(), zed.Of(2)
	half := over(a.half, m) // d times it and √m is half the width long
	ahead, aside := d.times(over(beyond, m)), d.left().times(half)
	l := []octant.Place{place(p, m, two, ahead.plus(aside))}
	if a.round {
		none, quarter := vector{}, over(half, two) // 1/√2 is √2/2
		l = append(l,
			place(p, m, two, none, none, d.plus(d.left()).times(quarter)),
			place(p, m, two, d.times(half)),
			place(p, m, two, none, none, d.plus(d.left().opposite()).times(quarter)))
	}
	return append(l, place(p, m, two, ahead.plus(aside.neg())))
}

// place gives the point moved by vectors times √m, √n and √m √n, as a place of the field m, n.
func place(p api.Pt, m, n zed.Int, by ...vector) octant.Place {
	x, y := []frac.Rat{frac.Whole(zed.Of(p.X))}, []frac.Rat{frac.Whole(zed.Of(p.Y))}
	for _, v := range by {
		x, y = append(x, v.x), append(y, v.y)
	}
	first, _ := surd.Of(m, n, x...)
	second, _ := surd.Of(m, n, y...)
	return octant.Place{X: first, Y: second}
}

// over gives a divided by n, which isn't 0.
func over(a frac.Rat, n zed.Int) frac.Rat {
	quotient, _ := a.Div(frac.Whole(n))
	return quotient
}

func (v vector) plus(w vector) vector { return vector{v.x.Add(w.x), v.y.Add(w.y)} }

func (v vector) neg() vector { return vector{v.x.Neg(), v.y.Neg()} }
