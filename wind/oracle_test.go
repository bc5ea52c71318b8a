package wind_test

import (
	"math/big"
	"testing"

	"pellicle/wind"
)

// has: is p one of the way's points?
func (w way) has(p spot) bool {
	to, off := w.b.minus(w.a), p.minus(w.a)
	return to.cross(off).Sign() == 0 && off.dot(p.minus(w.b)).Sign() <= 0
}

// lies: does p lie on the row?
func lies(l []spot, p spot) bool {
	for _, w := range sidesOf(l) {
		if w.has(p) {
			return true
		}
	}
	return false
}

// quadrant tells in which quarter about 0 0 a point lies: its first axis is of it, its last one isn't.
func quadrant(p spot) int {
	switch x, y := p.x.Sign(), p.y.Sign(); {
	case x > 0 && y >= 0:
		return 0
	case x <= 0 && y > 0:
		return 1
	case x < 0:
		return 2
	}
	return 3
}

// quarters is how many quarters one looks on, against the clock, as one goes from p to q and looks at 0 0, which isn't on the way.
func quarters(p, q spot) int {
	switch on := (quadrant(q) - quadrant(p) + 4) % 4; on {
	case 3:
		return -1
	case 2:
		return 2 * p.cross(q).Sign()
	default:
		return on
	}
}

// turns is how often a row goes around p, which doesn't lie on it: by the quarters of all its segments.
func turns(t *testing.T, l []spot, p spot) int {
	t.Helper()
	if lies(l, p) {
		t.Fatal("the test is wrong:", short(text(l)), p.text())
	}
	n := 0
	for _, w := range sidesOf(l) {
		n += quarters(w.a.minus(p), w.b.minus(p))
	}
	if n%4 != 0 {
		t.Fatal("the test is wrong:", short(text(l)), p.text())
	}
	return n / 4
}

// reaches are the parts of the way from m by dir at which it meets a segment: of one that lies along it those of its ends.
func reaches(m, dir spot, w way) []*big.Rat {
	to := w.dir()
	if by := dir.cross(to); by.Sign() != 0 {
		part := over(w.a.minus(m).cross(to), by)
		if !w.has(m.plus(dir.times(part))) {
			return nil
		}
		return []*big.Rat{part}
	}
	if w.a.minus(m).cross(dir).Sign() != 0 {
		return nil
	}
	return []*big.Rat{over(w.a.minus(m).dot(dir), dir.dot(dir)), over(w.b.minus(m).dot(dir), dir.dot(dir))}
}

// beside is a point off m by dir, so near that nothing of the row lies between them.
func beside(l []spot, m, dir spot) spot {
	part := ratio(1, 1)
	for _, w := range sidesOf(l) {
		for _, x := range reaches(m, dir, w) {
			if x.Sign() > 0 && x.Cmp(part) < 0 {
				part = x
			}
		}
	}
	return m.plus(dir.times(over(part, ratio(2, 1))))
}

// promised: does each of the row's segments that has the middle of s lie along the line of s?
func promised(l []spot, s way) bool {
	for _, w := range sidesOf(l) {
		if w.has(s.middle()) && w.dir().cross(s.dir()).Sign() != 0 {
			return false
		}
	}
	return true
}

// bothSides is what Beside is to answer, if it is promised.
func bothSides(t *testing.T, l []spot, s way) (left, right int) {
	t.Helper()
	if s.dir().none() {
		return 0, 0
	}
	off := s.dir().quarter()
	return turns(t, l, beside(l, s.middle(), off)), turns(t, l, beside(l, s.middle(), off.times(ratio(-1, 1))))
}

// around asks how often a row on the grid goes around p.
func around(t *testing.T, l []spot, p spot, n int, on bool) {
	t.Helper()
	g, ok := onGrid(l)
	if !ok {
		t.Fatal("the test is wrong:", short(text(l)))
	}
	if got, is := wind.Around(g, p.point()); got != n || is != on {
		t.Fatalf("Around of %s, %s: %d %t, want %d %t", short(text(l)), short(p.text()), got, is, n, on)
	}
}

// besides asks how often a row goes around the points beside s.
func besides(t *testing.T, l []spot, s way, left, right int) {
	t.Helper()
	if a, b := wind.Beside(points(l), s.seg()); a != left || b != right {
		t.Fatalf("Beside of %s, %s: %d %d, want %d %d", short(text(l)), short(s.text()), a, b, left, right)
	}
}
