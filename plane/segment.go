package plane

import "pellicle/frac"

// Seg is a segment: its ends, and all between.
type Seg struct{ A, B Pt }

// On: is it one of a segment's points?
func On(s Seg, p Pt) bool {
	from, to := s.ends()
	return from.Cmp(p) <= 0 && p.Cmp(to) <= 0 && Side(s.A, s.B, p) == 0
}

// Meet: what two segments have in common.
func Meet(s, t Seg) []Pt {
	from, to := overlap(s, t)
	if from.Cmp(to) > 0 || oneSide(aside(s, t)) {
		return nil
	}
	u, v := aside(t, s)
	switch {
	case oneSide(u, v):
		return nil
	case u.Sign() == 0 && v.Sign() == 0: // all four ends are on one line: a t of one point beside s's line would have been on one side
		return between(from, to)
	}
	p := s.cut(u, v)
	return between(p, p)
}

// Clip: what of a segment lies left of another one.
func Clip(s, by Seg) []Pt {
	from, to := s.A, s.B
	u, v := aside(by, s)
	switch {
	case u.Sign() < 0 && v.Sign() < 0:
		return nil
	case u.Sign() < 0:
		from = s.cut(u, v)
	case v.Sign() < 0:
		to = s.cut(u, v)
	}
	return between(from, to)
}

// ends gives its ends, the lesser one first: its other points are between them in the order of points too.
func (s Seg) ends() (Pt, Pt) {
	if s.A.Cmp(s.B) > 0 {
		return s.B, s.A
	}
	return s.A, s.B
}

// overlap gives the least and the greatest point that, by the order of points alone, both may have: if the least is greater, they have none.
func overlap(s, t Seg) (from, to Pt) {
	from, to = s.ends()
	least, most := t.ends()
	if least.Cmp(from) > 0 {
		from = least
	}
	if most.Cmp(to) < 0 {
		to = most
	}
	return from, to
}

// aside gives how far left of by's line the ends of s lie, times by's length.
func aside(by, s Seg) (u, v frac.Rat) {
	return Cross(by.A, by.B, s.A), Cross(by.A, by.B, s.B)
}

// oneSide: do both ends lie on one side of the line, and not on it?
func oneSide(u, v frac.Rat) bool { return u.Sign()*v.Sign() > 0 }

// cut gives the point in which a line meets s, if A lies u left of it, and B lies v, another number.
func (s Seg) cut(u, v frac.Rat) Pt {
	part, _ := u.Div(u.Sub(v))
	return s.A.plus(s.B.minus(s.A).times(part))
}

// between tells a segment by its ends, or by one point, if they are the same.
func between(from, to Pt) []Pt {
	if from.Cmp(to) == 0 {
		return []Pt{from.fresh()}
	}
	return []Pt{from.fresh(), to.fresh()}
}
