package split_test

import (
	"math/big"
	"slices"
)

// part is a stretch of a segment, from one part of the way to another; of none the first is the greater.
type part struct{ from, to *big.Rat }

func whole() part { return part{ratio(0, 1), ratio(1, 1)} }

func none() part { return part{ratio(1, 1), ratio(0, 1)} }

// narrowed is what lies in both.
func (a part) narrowed(b part) part {
	if b.from.Cmp(a.from) > 0 {
		a.from = b.from
	}
	if b.to.Cmp(a.to) < 0 {
		a.to = b.to
	}
	return a
}

// has: is the point one of the segment's?
func (w way) has(p spot) bool {
	to, off := w.dir(), p.minus(w.a)
	return to.cross(off).Sign() == 0 && off.dot(p.minus(w.b)).Sign() <= 0
}

// shares gives which part of w the segment v has too, if both have two ends.
func (w way) shares(v way) part {
	d, e, far := w.dir(), v.dir(), v.a.minus(w.a)
	if by := d.cross(e); by.Sign() != 0 {
		here, there := over(far.cross(e), by), over(far.cross(d), by)
		if there.Sign() < 0 || there.Cmp(ratio(1, 1)) > 0 {
			return none()
		}
		return part{here, here}.narrowed(whole())
	}
	if d.cross(far).Sign() != 0 {
		return none()
	}
	first, second := over(d.dot(far), d.dot(d)), over(d.dot(v.b.minus(w.a)), d.dot(d))
	if first.Cmp(second) > 0 {
		first, second = second, first
	}
	return part{first, second}.narrowed(whole())
}

// cutBy gives the points at which v cuts w, which has two ends.
func (w way) cutBy(v way) []spot {
	if v.dir().none() {
		if w.has(v.a) {
			return []spot{v.a}
		}
		return nil
	}
	shared := w.shares(v)
	if shared.from.Cmp(shared.to) > 0 {
		return nil
	}
	return []spot{w.along(shared.from), w.along(shared.to)}
}

// cutOf gives the pieces of w, which has two ends, among the segments of a list.
func cutOf(w way, l []way) []way {
	cuts := []spot{w.a, w.b}
	for _, v := range l {
		cuts = append(cuts, w.cutBy(v)...)
	}
	slices.SortFunc(cuts, spot.order)
	cuts = slices.CompactFunc(cuts, spot.same)
	var out []way
	for i, p := range cuts[1:] {
		out = append(out, way{cuts[i], p})
	}
	return out
}

// cut gives what Of is to tell, each segment held against each.
func cut(l []way) []way {
	var out []way
	for _, w := range l {
		if !w.dir().none() {
			out = append(out, cutOf(w, l)...)
		}
	}
	slices.SortFunc(out, way.order)
	return slices.CompactFunc(out, func(w, v way) bool { return w.order(v) == 0 })
}
