package split_test

import (
	"slices"
	"testing"

	"pellicle/api"
	"pellicle/plane"
	"pellicle/split"
)

// grid is a segment on the grid.
func grid(a, b, c, d int) plane.Seg {
	return plane.Seg{A: plane.Grid(api.Pt{X: a, Y: b}), B: plane.Grid(api.Pt{X: c, Y: d})}
}

// full makes MaxEdges segments.
func full(of func(i int) plane.Seg) []plane.Seg {
	l := make([]plane.Seg, api.MaxEdges)
	for i := range l {
		l[i] = of(i)
	}
	return l
}

// rises tells whether each is less than the next one, and goes from the lesser end.
func rises(l []plane.Seg) bool {
	for i, s := range l {
		if s.A.Cmp(s.B) >= 0 || i > 0 && !split.Less(l[i-1], s) {
			return false
		}
	}
	return true
}

// P14.1: more segments than MaxEdges: ErrLong, which is 2, and no piece beside it, whatever the segments are; as many as that aren't too many.
func TestTooMany(t *testing.T) {
	for _, x := range []struct {
		s    plane.Seg
		want string
	}{
		{grid(0, 0, 10, 7), "0 0 to 10 7"},
		{grid(10, 7, 0, 0), "0 0 to 10 7"},
		{plane.Seg{}, ""},
	} {
		l := full(func(int) plane.Seg { return x.s })
		if got := texts(pieces(t, l)); got != x.want {
			t.Fatal(short(got))
		}
		for n := 1; n < 3; n++ {
			l = append(l, x.s)
			if got, e := split.Of(l); e != 2 || len(got) != 0 {
				t.Fatal(len(l), e, len(got))
			}
		}
	}
}

// P14.1: MaxEdges segments of which one knows the pieces.
func TestFull(t *testing.T) {
	const n = api.MaxEdges
	for _, x := range []struct {
		what string
		of   func(i int) plane.Seg
		want int
	}{
		{"side by side", func(i int) plane.Seg { return grid(i, 0, n+i, n+1) }, n},
		{"level", func(i int) plane.Seg { return grid(i*7919%n, -i, 2*n+i, -i) }, n},
		{"upright", func(i int) plane.Seg { return grid(i, i, i, -i-1) }, n},
		{"within one another, on one line", func(i int) plane.Seg { return grid(i, 2*i, 3*n-i, 6*n-2*i) }, 2*n - 1},
		{"in a row, on one line", func(i int) plane.Seg { return grid(3*i+3, i+1, 3*i, i) }, n},
		{"overlapping, on one line", func(i int) plane.Seg { return grid(0, 2*i, 0, 2*i+3) }, 2*n - 1},
		{"all through one point", func(i int) plane.Seg { return grid(-n, 2*i-n+1, n, n-1-2*i) }, 2 * n},
		{"all from one point", func(i int) plane.Seg { return grid(0, 0, n, i) }, n},
		{"one level, all else upright through it", comb, 3*n - 2},
		{"one upright, all else level through it", func(i int) plane.Seg { return turned(comb(i)) }, 3*n - 2},
		{"one, all else points on it", func(i int) plane.Seg {
			if i == 0 {
				return grid(0, 0, 3*n, n)
			}
			return grid(3*i, i, 3*i, i)
		}, n},
		{"squares", square(10), n},
		{"squares that touch", square(20), 50*101 + 51*100},
	} {
		l := pieces(t, full(x.of))
		if len(l) != x.want || !rises(l) {
			t.Fatal(x.what, len(l), "want", x.want, rises(l))
		}
	}
}

// comb is a level segment, and teeth that go through it.
func comb(i int) plane.Seg {
	if i == 0 {
		return grid(0, 0, api.MaxEdges, 0)
	}
	return grid(i, 3, i, -i)
}

func turned(s plane.Seg) plane.Seg {
	return plane.Seg{A: plane.Pt{X: s.A.Y.Neg(), Y: s.A.X}, B: plane.Pt{X: s.B.Y.Neg(), Y: s.B.X}}
}

// square gives sides of squares that stand in a hundred rows of 50, from 20 to 20, that long.
func square(side int) func(i int) plane.Seg {
	return func(i int) plane.Seg {
		x, y := i/4%50*20, i/4/50*20
		switch i % 4 {
		case 0:
			return grid(x, y, x+side, y)
		case 1:
			return grid(x+side, y, x+side, y+side)
		case 2:
			return grid(x+side, y+side, x, y+side)
		}
		return grid(x, y+side, x, y)
	}
}

// P14.1: MaxEdges segments of many directions, by the second reckoning, in which each is held against those that come near it.
func TestFullScattered(t *testing.T) {
	c := chain(424242)
	var l []way
	near := map[[2]int64][]way{} // by squares of 2000
	for range api.MaxEdges {
		x, y := c.within(0, 139999), c.within(0, 139999)
		w := from(x, y, x+c.within(-999, 999), y+c.within(-999, 999))
		l = append(l, w)
		for around := range int64(9) {
			k := [2]int64{x/2000 + around/3 - 1, y/2000 + around%3 - 1}
			near[k] = append(near[k], w)
		}
	}
	var want []way
	for _, w := range l {
		x, y := w.a.x.Num().Int64(), w.a.y.Num().Int64()
		want = append(want, cutOf(w, near[[2]int64{x / 2000, y / 2000}])...)
	}
	slices.SortFunc(want, way.order)
	if len(want) < api.MaxEdges+5000 {
		t.Fatal("the test is wrong:", len(want))
	}
	splits(t, l, want)
}
