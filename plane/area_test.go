package plane_test

import (
	"math/big"
	"slices"
	"testing"

	"pellicle/plane"
)

// hasArea asks for the area of a row, whichever point it begins with.
func hasArea(t *testing.T, l []spot, want *big.Rat) {
	t.Helper()
	for i := range max(1, len(l)) {
		turned := slices.Concat(l[i:], l[:i])
		isNumber(t, "Area of "+spotTexts(turned), plane.Area(points(turned)), want)
	}
}

// P11.4: areas, written out, and of the same rows seen otherwise.
func TestArea(t *testing.T) {
	for _, x := range []struct {
		what  string
		l     []spot
		twice int64
	}{
		{"no points", nil, 0},
		{"one", row(5, 7), 0},
		{"two", row(5, 7, 1, 9), 0},
		{"two, the same", row(5, 7, 5, 7), 0},
		{"on one line", row(0, 0, 2, 1, 6, 3), 0},
		{"on one line, there and back", row(0, 0, 4, 0, 9, 0, 2, 0), 0},
		{"a triangle against the clock", row(0, 0, 2, 0, 0, 1), 2},
		{"a triangle with it", row(0, 0, 0, 1, 2, 0), -2},
		{"one of a broken area", row(0, 0, 1, 0, 0, 1), 1},
		{"a triangle far from 0 0", row(100, 200, 103, 201, 101, 204), 11},
		{"a square", row(0, 0, 4, 0, 4, 4, 0, 4), 32},
		{"a square about 0 0, with the clock", row(-1, -1, -1, 1, 1, 1, 1, -1), -8},
		{"a row with a corner inward", row(0, 0, 4, 0, 4, 2, 2, 2, 2, 4, 0, 4), 24},
		{"an eight", row(0, 0, 4, 4, 4, 0, 0, 4), 0},
		{"an eight of unlike halves, 1 against the clock and 9 with it", row(0, 0, 4, 4, 4, -2, 0, 2), -16},
		{"a star, whose middle counts twice", row(0, 3, -2, -3, 3, 1, -3, 1, 2, -3), 32},
		{"twice around", row(0, 0, 4, 0, 4, 4, 0, 4, 0, 0, 4, 0, 4, 4, 0, 4), 64},
		{"once around each way", row(0, 0, 4, 0, 4, 4, 0, 4, 0, 0, 0, 4, 4, 4, 4, 0), 0},
		{"points twice", row(0, 0, 0, 0, 4, 0, 4, 4, 4, 4, 4, 4, 0, 4), 32},
		{"the first one again behind the last", row(0, 0, 4, 0, 4, 4, 0, 4, 0, 0), 32},
		{"a thread that sticks out", row(0, 0, 4, 0, 9, -3, 4, 0, 4, 4, 0, 4), 32},
		{"two squares at a corner", row(0, 0, 2, 0, 2, 2, 4, 2, 4, 4, 2, 4, 2, 2, 0, 2), 16},
	} {
		t.Run(x.what, func(t *testing.T) {
			for _, v := range views() {
				hasArea(t, v.row(x.l), times(v.grows(), ratio(x.twice, 2)))
			}
		})
	}
}

// P11.4: Area by another reckoning, of rows that go as they like.
func TestAreaMany(t *testing.T) {
	c := chain(123123123)
	for i := range 300 {
		l := c.row(i%12, 50, int64(1+i%7))
		hasArea(t, l, areaOf(l, c.spot(99, 9)))
	}
	long := c.row(300, 1<<40, 1)
	isNumber(t, "Area", plane.Area(points(long)), areaOf(long, at(7, 7)))
	broken := c.row(300, 1<<20, 1<<10)
	isNumber(t, "Area", plane.Area(points(broken)), areaOf(broken, spot{ratio(1, 3), ratio(5, 7)}))
}

// P11.4: a long row of broken points, of many denominators.
func TestAreaOfManyBroken(t *testing.T) {
	var l []spot
	for i := range int64(2000) {
		l = append(l, spot{ratio(i, 3+i%97), ratio(i*i, 5+i%89)})
	}
	isNumber(t, "Area", plane.Area(points(l)), areaOf(l, at(0, 0)))
}

// P11.4: areas of long and broken coordinates.
func TestAreaHeavy(t *testing.T) {
	l := few(spots(), 13)
	for i := range l {
		part := l[i:min(len(l), i+5)]
		isNumber(t, "Area", plane.Area(points(part)), areaOf(part, l[0]))
	}
}
