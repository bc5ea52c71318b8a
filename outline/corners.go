package outline

import (
	"pellicle/api"
	"pellicle/frac"
	"pellicle/zed"
)

// direction is that of a leg of a path: two whole numbers, not both 0, that no number above 1 divides both, so that like directions are like structs.
type direction struct{ x, y int }

// cornersOf gives the points but those that are like the one ahead, and those that lie straight on.
func cornersOf(pts []api.Pt) []api.Pt {
	var l []api.Pt
points:
	for i, p := range pts {
		if i > 0 && p == pts[i-1] {
			continue
		}
		for _, q := range pts[i+1:] {
			if q == p { // is left out itself, so that it isn't the point behind p
				continue
			}
			if len(l) > 0 && toward(l[len(l)-1], p) == toward(p, q) {
				continue points
			}
			break
		}
		l = append(l, p)
	}
	return l
}

// legsOf gives the directions from each corner to the one behind it.
func legsOf(corners []api.Pt) []direction {
	var l []direction
	for i, p := range corners[1:] {
		l = append(l, toward(corners[i], p))
	}
	return l
}

// turnsBack: is a direction followed by its very opposite?
func turnsBack(legs []direction) bool {
	for i, d := range legs[1:] {
		if d == legs[i].opposite() {
			return true
		}
	}
	return false
}

// toward gives the direction from a point of the grid to another one.
func toward(p, q api.Pt) direction {
	x, y := q.X-p.X, q.Y-p.Y
	by := common(x, y)
	return direction{x / by, y / by}
}

// common gives the greatest number that divides both, by Euclid's steps.
func common(a, b int) int {
	for b != 0 {
		a, b = b, a%b
	}
	return max(a, -a)
}

func (d direction) opposite() direction { return direction{-d.x, -d.y} }

// left is the direction, turned by 90 degrees to the left.
func (d direction) left() direction { return direction{-d.y, d.x} }

// plus is no direction, if the sum's numbers have a divisor in common, but goes that way.
func (d direction) plus(e direction) direction { return direction{d.x + e.x, d.y + e.y} }

// square gives how long it is, squared, which an int need not hold.
func (d direction) square() zed.Int { return d.cross(d.left()) }

// cross gives the product that is above 0 where e is left of d, below 0 where it is right of it.
func (d direction) cross(e direction) zed.Int {
	return zed.Of(d.x).Mul(zed.Of(e.y)).Sub(zed.Of(d.y).Mul(zed.Of(e.x)))
}

// times gives the vector that is so many times as long.
func (d direction) times(by frac.Rat) vector {
	return vector{by.Mul(frac.Whole(zed.Of(d.x))), by.Mul(frac.Whole(zed.Of(d.y)))}
}
