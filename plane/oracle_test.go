package plane_test

import "math/big"

// part is a stretch of a segment, from one part of the way to another; of none the first is the greater.
type part struct{ from, to *big.Rat }

// whole is all of a segment.
func whole() part { return part{ratio(0, 1), ratio(1, 1)} }

// narrowed is what lies in both.
func (a part) narrowed(b part) part {
	if b.from.Cmp(a.from) > 0 {
		a.from = b.from
	}
	if b.to.Cmp(a.to) < 0 {
		a.to = b.to
	}
	return a
}

func (a part) none() bool { return a.from.Cmp(a.to) > 0 }

// ends gives the ends of that part of the way, each once.
func (w way) ends(a part) []spot {
	if a.none() {
		return nil
	}
	l := []spot{w.along(a.from), w.along(a.to)}
	if l[0].order(l[1]) == 0 {
		return l[:1]
	}
	return l
}

// has: is the point one of the segment's?
func (w way) has(p spot) bool {
	d, far := w.dir(), p.minus(w.a)
	if d.none() {
		return far.none()
	}
	along := d.dot(far)
	return d.cross(far).Sign() == 0 && along.Sign() >= 0 && along.Cmp(d.dot(d)) <= 0
}

// shares gives which part of w the segment v has too, if both have two ends.
func (w way) shares(v way) part {
	d, e, far := w.dir(), v.dir(), v.a.minus(w.a)
	if by := d.cross(e); by.Sign() != 0 {
		here, there := over(far.cross(e), by), over(far.cross(d), by)
		if (part{there, there}).narrowed(whole()).none() {
			return part{ratio(1, 1), ratio(0, 1)}
		}
		return part{here, here}.narrowed(whole())
	}
	if d.cross(far).Sign() != 0 {
		return part{ratio(1, 1), ratio(0, 1)}
	}
	first, second := over(d.dot(far), d.dot(d)), over(d.dot(v.b.minus(w.a)), d.dot(d))
	if first.Cmp(second) > 0 {
		first, second = second, first
	}
	return part{first, second}.narrowed(whole())
}

// meeting gives what Meet is to tell.
func meeting(w, v way) []spot {
	switch {
	case v.dir().none():
		w, v = v, w
		fallthrough
	case w.dir().none():
		if v.has(w.a) {
			return []spot{w.a}
		}
		return nil
	}
	l := w.ends(w.shares(v))
	if len(l) == 2 && l[0].order(l[1]) > 0 {
		l[0], l[1] = l[1], l[0]
	}
	return l
}

// inHalf: is the point in the closed half left of the segment?
func inHalf(p spot, by way) bool { return by.dir().cross(p.minus(by.a)).Sign() >= 0 }

// clipped gives what Clip is to tell.
func clipped(w, by way) []spot {
	first, second := by.dir().cross(w.a.minus(by.a)), by.dir().cross(w.b.minus(by.a))
	rise := less(second, first)
	if rise.Sign() == 0 {
		if first.Sign() < 0 {
			return nil
		}
		return w.ends(whole())
	}
	root := over(new(big.Rat).Neg(first), rise)
	if rise.Sign() > 0 {
		return w.ends(whole().narrowed(part{root, ratio(1, 1)}))
	}
	return w.ends(whole().narrowed(part{ratio(0, 1), root}))
}

// areaOf gives the area by triangles that each side makes with a point elsewhere.
func areaOf(l []spot, eye spot) *big.Rat {
	twice := new(big.Rat)
	for i, p := range l {
		q := l[0]
		if i+1 < len(l) {
			q = l[i+1]
		}
		twice.Add(twice, p.minus(eye).cross(q.minus(eye)))
	}
	return twice.Quo(twice, ratio(2, 1))
}
