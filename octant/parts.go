package octant

import (
	"pellicle/api"
	"pellicle/frac"
	"pellicle/surd"
	"pellicle/zed"
)

// parts are those of a number of a field m, n that is known beside them: how often it has 1, √m, √n and √m √n.
type parts [4]frac.Rat

// point is a point by its coordinates' parts, of one field.
type point struct{ x, y parts }

// onGrid gives a point of the grid, of any field.
func onGrid(p api.Pt) point {
	return point{parts{frac.Whole(zed.Of(p.X))}, parts{frac.Whole(zed.Of(p.Y))}}
}

// place gives the point of that field, in memory of its own.
func (p point) place(m, n zed.Int) Place {
	x, _ := surd.Of(m, n, p.x[:]...)
	y, _ := surd.Of(m, n, p.y[:]...)
	return Place{x, y}
}

// neg gives the number on the other side of 0.
func (a parts) neg() parts {
	for i, part := range a {
		a[i] = part.Neg()
	}
	return a
}

// plus gives the sum of two numbers of one field.
func (a parts) plus(b parts) parts {
	for i, part := range b {
		a[i] = a[i].Add(part)
	}
	return a
}

// few: is it 0, 1 or 2, a number whose root lies in the field 2, 0?
func few(square zed.Int) bool {
	n, small := square.Small()
	return small && n >= 0 && n <= 2
}

// folded gives the number of a field of two such squares as one of the field 2, 0.
func (a parts) folded(m, n zed.Int) parts {
	var out parts
	first, _ := m.Small()
	second, _ := n.Small()
	for i, square := range [4]int{1, first, second, first * second} {
		switch square {
		case 1:
			out[0] = out[0].Add(a[i])
		case 2:
			out[1] = out[1].Add(a[i])
		case 4: // whose root is 2
			out[0] = out[0].Add(a[i]).Add(a[i])
		}
	}
	return out
}
