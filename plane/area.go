package plane

import (
	"iter"

	"pellicle/frac"
)

// Area: of a closed row.
func Area(l []Pt) frac.Rat {
	var twice frac.Rat
	for p, q := range sides(l) {
		twice = twice.Add(cross(p, q))
	}
	area, _ := twice.Div(whole(2))
	return area
}

// sides gives each point of a closed row with the next one, and the last one with the first.
func sides(l []Pt) iter.Seq2[Pt, Pt] {
	return func(yield func(p, q Pt) bool) {
		for i, p := range l {
			if !yield(p, l[(i+1)%len(l)]) {
				return
			}
		}
	}
}
