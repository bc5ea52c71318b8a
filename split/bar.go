package split

import (
	"cmp"
	"slices"

	"pellicle/api"
	"pellicle/frac"
	"pellicle/plane"
)

// bar is what segments that overlap or touch on one line cover together: cut at their ends, it has their pieces. So two bars have at most one point in common, however many segments lie on one another.
type bar struct {
	line     line
	from, to plane.Pt   // its least and its greatest point
	cuts     []plane.Pt // where it is cut, in any order, some points more than once
}

// line is where Y is X times rise, and at; or, if it is upright, where X is at.
type line struct {
	upright  bool
	rise, at frac.Rat
}

// barsOf gives the bars of segments, and those segments that are one point.
func barsOf(l []plane.Seg) (bars []*bar, lone []plane.Pt) {
	var parts []*bar
	for _, s := range l {
		switch s.A.Cmp(s.B) {
		case -1:
			parts = append(parts, barOf(s.A, s.B))
		case 0:
			lone = append(lone, s.A)
		case 1:
			parts = append(parts, barOf(s.B, s.A))
		}
	}
	slices.SortFunc(parts, along)
	for _, b := range parts {
		if n := len(bars); n == 0 || !bars[n-1].join(b) {
			bars = append(bars, b)
		}
	}
	return bars, lone
}

// barOf makes a bar of two points, the lesser one first.
func barOf(from, to plane.Pt) *bar {
	return &bar{lineOf(from, to), from, to, []plane.Pt{from, to}}
}

// along orders bars by their lines, and on a line by where they begin.
func along(b, c *bar) int {
	return cmp.Or(b.line.order(c.line), b.from.Cmp(c.from))
}

// join takes a bar that doesn't begin ahead of b in, if it overlaps or touches b on its line.
func (b *bar) join(c *bar) bool {
	if b.line.order(c.line) != 0 || b.to.Cmp(c.from) < 0 {
		return false
	}
	if b.to.Cmp(c.to) < 0 {
		b.to = c.to
	}
	b.cuts = append(b.cuts, c.cuts...)
	return true
}

// pieces gives what lies between its cuts.
func (b *bar) pieces() []plane.Seg {
	slices.SortFunc(b.cuts, plane.Pt.Cmp)
	cuts := slices.CompactFunc(b.cuts, same)
	var out []plane.Seg
	for i, p := range cuts[1:] {
		out = append(out, plane.Seg{A: fresh(cuts[i]), B: fresh(p)})
	}
	return out
}

// lineOf gives the line through two points.
func lineOf(p, q plane.Pt) line {
	rise, e := q.Y.Sub(p.Y).Div(q.X.Sub(p.X))
	if e != api.OK {
		return line{upright: true, at: p.X}
	}
	return line{rise: rise, at: p.Y.Sub(p.X.Mul(rise))}
}

// turn tells whether a line is less steep than m (-1), goes the same way, or is steeper; upright lines are the steepest.
func (l line) turn(m line) int {
	switch {
	case l.upright == m.upright:
		return l.rise.Cmp(m.rise)
	case l.upright:
		return 1
	}
	return -1
}

// order: less, the same, greater; lines that go the same way are together.
func (l line) order(m line) int { return cmp.Or(l.turn(m), l.at.Cmp(m.at)) }

func same(p, q plane.Pt) bool { return p.Cmp(q) == 0 }

// fresh gives the same point in memory of its own, as an answer shares none with what was handed in.
func fresh(p plane.Pt) plane.Pt {
	return plane.Pt{X: p.X.Add(frac.Rat{}), Y: p.Y.Add(frac.Rat{})}
}
