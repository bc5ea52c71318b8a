package octant

import "pellicle/frac"

// eighths are the powers of a turn by 45 degrees, each a pair: where 1 0 comes to. Those at odd places are √2 times as far as the turn goes, so that all are whole.
var eighths = [8][2]int{{1, 0}, {1, 1}, {0, 1}, {-1, 1}, {-1, 0}, {-1, -1}, {0, -1}, {1, -1}}

// lay gives where a point comes to: of the field 2, 0; or of any, if the Turn has no √2.
func (a Turn) lay(p point) point {
	if a.flip {
		p.y = p.y.neg()
	}
	p = a.spin(p)
	return point{p.x.plus(a.move.x), p.y.plus(a.move.y)}
}

// spin gives the point enlarged and turned.
func (a Turn) spin(p point) point {
	mag, odd := a.Mag(), a.octant%2 == 1
	product := func(x, y int) parts { // of the row x, y and the point
		var out parts
		for i := range out {
			if p.x[i].Sign() == 0 && p.y[i].Sign() == 0 { // most points have few parts
				continue
			}
			out[i] = times(x, p.x[i]).Add(times(y, p.y[i])).Mul(mag)
		}
		if odd {
			return out.shared()
		}
		return out
	}
	turn := eighths[a.octant]
	return point{product(turn[0], -turn[1]), product(turn[1], turn[0])}
}

// rooted: has it √2, in its turn or its move?
func (a Turn) rooted() bool {
	return a.octant%2 == 1 || a.move.x[1].Sign() != 0 || a.move.y[1].Sign() != 0
}

// shared gives a number of the field 2, 0 divided by √2: 1 divided so is √2/2, and √2 is 1.
func (a parts) shared() parts {
	half, _ := frac.Of(1, 2)
	return parts{a[1], a[0].Mul(half)}
}

// times is n times a, for an n of -1, 0, 1.
func times(n int, a frac.Rat) frac.Rat {
	switch n {
	case 0:
		return frac.Rat{}
	case -1:
		return a.Neg()
	}
	return a
}
