package flat_test

import (
	"testing"

	"pellicle/api"
)

// corner is a shape that no flip or turn leaves alike.
func corner() api.Item { return shape(0, 0, 8, 0, 8, 2, 0, 4, 0, 0) }

// P10.1: a reference flips, if the highest bit of STRANS is set, then its mag is MAG, its octant that of ANGLE, and it moves by its point.
func TestWays(t *testing.T) {
	for _, x := range []struct {
		l    []api.Record
		want []int
	}{
		{nil, []int{0, 0, 8, 0, 8, 2, 0, 4}},
		{[]api.Record{plain()}, []int{0, 0, 8, 0, 8, 2, 0, 4}},
		{[]api.Record{flipped()}, []int{0, 0, 8, 0, 8, -2, 0, -4}},
		{[]api.Record{plain(), times(1, 1)}, []int{0, 0, 8, 0, 8, 2, 0, 4}},
		{[]api.Record{plain(), times(1, 2)}, []int{0, 0, 4, 0, 4, 1, 0, 2}},
		{[]api.Record{plain(), times(5, 2)}, []int{0, 0, 20, 0, 20, 5, 0, 10}},
		{[]api.Record{plain(), times(1, 4)}, []int{0, 0, 2, 0, 2, 0, 0, 1}},
		{[]api.Record{plain(), turned(0)}, []int{0, 0, 8, 0, 8, 2, 0, 4}},
		{[]api.Record{plain(), turned(45)}, []int{0, 0, 6, 6, 4, 7, -3, 3}},
		{[]api.Record{plain(), turned(90)}, []int{0, 0, 0, 8, -2, 8, -4, 0}},
		{[]api.Record{plain(), turned(180)}, []int{0, 0, -8, 0, -8, -2, 0, -4}},
		{[]api.Record{plain(), turned(270)}, []int{0, 0, 0, -8, 2, -8, 4, 0}},
		{[]api.Record{flipped(), turned(90)}, []int{0, 0, 0, 8, 2, 8, 4, 0}},
		{[]api.Record{flipped(), times(3, 1), turned(90)}, []int{0, 0, 0, 24, 6, 24, 12, 0}},
		{[]api.Record{flipped(), times(3, 2), turned(45)}, []int{0, 0, 8, 8, 11, 6, 4, -4}},
	} {
		for _, move := range [][2]int{{0, 0}, {100, -30}, {-7, 1000000}} {
			var want []int
			for i, n := range x.want {
				want = append(want, n+move[i%2])
			}
			comes(t, valid(t, lib(cell("a", corner()), cell("top", ref("a", move[0], move[1], x.l...)))), made(1, 2, want...))
		}
	}
}

// P10.1: the octant is ANGLE divided by 45, modulo 8, below 0 and beyond 360 too; of every MAG, flipped or not.
func TestAngles(t *testing.T) {
	kinds := []api.Item{corner(), crate(0, 0, 9, 0, 9, 5, 0, 5, 0, 0), line([]int{0, 0, 30, 0, 60, 30, 60, 90}, shorts(pathtype, 1), longs(width, 10))}
	for _, first := range []api.Record{plain(), flipped()} {
		for _, size := range []api.Record{times(1, 16), times(1, 2), times(1, 1), times(3, 2), times(1000, 1)} {
			for n := -17; n <= 25; n++ {
				u := valid(t, lib(cell("a", kinds...), cell("top", ref("a", 11, -13, first, size, turned(45*n)))))
				got := shapes(t, u)
				want, e := reckoned(u)
				if e != api.OK {
					t.Fatal(n, e)
				}
				same(t, "turned", got, want)
				again := lib(cell("a", kinds...), cell("top", ref("a", 11, -13, first, size, turned(45*(n+8)))))
				comes(t, again, want...)
			}
		}
	}
}

// P10.1: an ANGLE as great as a real may be is one, if it is a whole multiple of 45; one of -0 is 0.
func TestGreatAngles(t *testing.T) {
	want := func(octant int) []api.Shape {
		return shapes(t, lib(cell("a", corner()), cell("top", ref("a", 5, 5, plain(), turned(45*octant)))))
	}
	for _, x := range []struct {
		b      []byte
		octant int
	}{
		{[]byte{0x7f, 45, 0, 0, 0, 0, 0, 0}, 0},                // 45 times 16 to the power of so many
		{[]byte{0xff, 45, 0, 0, 0, 0, 0, 0}, 0},                // and that below 0
		{[]byte{78, 0, 0, 0, 0, 0, 0, 45}, 1},                  // 45
		{[]byte{78 + 128, 0, 0, 0, 0, 0, 0, 45}, 7},            // -45
		{[]byte{78, 0, 0x2d, 0, 0, 0, 0, 45}, 1},               // 45 times 2^40 + 1
		{[]byte{78 + 128, 0, 0x2d, 0, 0, 0, 0, 45}, 7},         // and that below 0
		{[]byte{77, 0, 0x2d, 0, 0, 0, 0, 0x2d * 4}, -1},        // a quarter of 45 beside a multiple
		{[]byte{78, 255, 255, 255, 255, 255, 255, 255}, -1},    // 2^56 - 1, which 45 doesn't divide
		{[]byte{0x80, 0, 0, 0, 0, 0, 0, 0}, 0},                 // 0 with a sign
		{[]byte{0x7f, 0, 0, 0, 0, 0, 0, 0}, 0},                 // and with a great exponent
		{[]byte{0, 0, 0, 0, 0, 0, 0, 1}, -1},                   // the least one above 0
		{[]byte{0x42, 0x2d, 0, 0, 0, 0, 0, 1}, -1},             // 45 and a little
		{[]byte{0x42, 0x2c, 255, 255, 255, 255, 255, 255}, -1}, // 45 less a little
		{[]byte{0x42, 0x1e, 0, 0, 0, 0, 0, 0}, -1},             // 30
		{[]byte{0x42, 0x16, 0x80, 0, 0, 0, 0, 0}, -1},          // 45/2
		{[]byte{0x41, 0x10, 0, 0, 0, 0, 0, 0}, -1},             // 1
		{[]byte{0x43, 0x16, 0x80, 0, 0, 0, 0, 0}, 0},           // 360
		{[]byte{0x43, 0x13, 0xb0, 0, 0, 0, 0, 0}, 7},           // 315
		{[]byte{0x43 + 128, 0x13, 0xb0, 0, 0, 0, 0, 0}, 1},     // -315
		{[]byte{78 + 128, 0, 0, 0, 0, 0, 0x01, 0x3b}, 1},       // -315 in another way
		{[]byte{78, 0, 0, 0, 0, 0, 0x01, 0x3b}, 7},             // 315
		{[]byte{78 + 1, 0, 0, 0, 0, 0, 0, 45}, 0},              // 720
		{[]byte{78 + 128, 0, 0, 0, 0, 0, 0, 45 * 3}, 5},        // -135
		{[]byte{78 + 128, 0, 0, 0, 0, 0, 45, 45}, 7},           // -45 times 257
	} {
		u := valid(t, lib(cell("a", corner()), cell("top", ref("a", 5, 5, plain(), api.Record{Kind: angle, Data: 5, Body: x.b}))))
		if x.octant < 0 {
			fails(t, "an angle", u, api.MaxShapes, api.ErrFeature)
			continue
		}
		comes(t, u, want(x.octant)...)
	}
}

// P10.1: an AREF is laid for each row, for each column, its point moved by so many columns' and rows' parts.
func TestArray(t *testing.T) {
	dot := shape(0, 0, 1, 0, 0, 1, 0, 0)
	at := func(x, y int) api.Shape { return made(1, 2, x, y, x+1, y, x, y+1) }
	low := cell("a", dot)
	comes(t, valid(t, lib(low, cell("top", array("a", 1, 1, []int{5, 6, 700, 800, 900, 1000})))), at(5, 6))
	comes(t, lib(low, cell("top", array("a", 3, 2, []int{0, 0, 60, 0, 0, 40}))), at(0, 0), at(20, 0), at(40, 0), at(0, 20), at(20, 20), at(40, 20))
	comes(t, lib(low, cell("top", array("a", 2, 3, []int{10, 10, 10, 30, -50, 10}))), at(10, 10), at(10, 20), at(-10, 10), at(-10, 20), at(-30, 10), at(-30, 20))
	comes(t, lib(low, cell("top", array("a", 3, 1, []int{0, 0, 10, -10, 5, 5}))), at(0, 0), at(3, -3), at(7, -7))
	comes(t, lib(low, cell("top", array("a", 1, 4, []int{1, 0, 5, 5, 2, 10}))), at(1, 0), made(1, 2, 1, 2, 2, 2, 1, 4), made(1, 2, 2, 5, 2, 5, 2, 6), made(1, 2, 2, 8, 3, 8, 2, 8)) // at 5/4 and 5/2, 3/2 and 5, 7/4 and 15/2
	comes(t, lib(low, cell("top", array("a", 2, 2, []int{7, 7, 7, 7, 7, 7}))), at(7, 7), at(7, 7), at(7, 7), at(7, 7))
	comes(t, lib(low, cell("top", array("a", 2, 2, []int{0, 0, 10, 0, 5, 0}))), at(0, 0), at(5, 0), made(1, 2, 2, 0, 4, 0, 2, 1), made(1, 2, 8, 0, 8, 0, 8, 1)) // at 5/2 and 7/2, 15/2 and 17/2
	turn := []api.Record{flipped(), times(2, 1), turned(90)}                                                                                                    // flips, enlarges and turns each copy, not the rows
	comes(t, lib(low, cell("top", array("a", 2, 2, []int{0, 0, 20, 0, 0, 30}, turn...))), made(1, 2, 0, 0, 0, 2, 2, 0), made(1, 2, 10, 0, 10, 2, 12, 0), made(1, 2, 0, 15, 0, 17, 2, 15), made(1, 2, 10, 15, 10, 17, 12, 15))
	comes(t, lib(cell("a", dot, square(2)), cell("top", array("a", 2, 1, []int{0, 0, 20, 0, 0, 30}))), at(0, 0), made(1, 2, 0, 0, 2, 0, 2, 2, 0, 2), at(10, 0), made(1, 2, 10, 0, 12, 0, 12, 2, 10, 2))
}

// P10.1: all copies of many columns and rows, whose parts are no whole numbers.
func TestOddArrays(t *testing.T) {
	for _, x := range []struct{ columns, rows int }{{1, 1}, {7, 1}, {1, 7}, {3, 9}, {13, 11}, {1, 1000}, {1000, 1}, {64, 3}} {
		for _, pts := range [][]int{{0, 0, 100, 0, 0, 100}, {3, -4, 1000, 77, -5, 999}, {low, high, high, low, 0, 0}, {0, 0, 1, 1, -1, 1}} {
			for _, turn := range [][]api.Record{nil, {flipped(), times(1, 2), turned(-45)}} {
				u := valid(t, lib(cell("a", shape(0, 0, 3, 0, 0, -3, 0, 0)), cell("top", array("a", x.columns, x.rows, pts, turn...))))
				got, e := reckoned(u)
				if e != api.OK {
					fails(t, "an array", u, api.MaxShapes, e)
					continue
				}
				comes(t, u, got...)
			}
		}
	}
	u := valid(t, lib(cell("a", square(1)), cell("top", array("a", 32767, 3, []int{0, 0, 32767, 1, 2, 3}))))
	got := shapes(t, u)
	if len(got) != 3*32767 || got[32766].Pts[0] != (api.Pt{X: 32766, Y: 1}) || got[32767].Pts[0] != (api.Pt{X: 1, Y: 1}) {
		t.Fatal(len(got))
	}
}

// P10.1: references within references: a cell is laid by its own reference, then by those around, and rounded once.
func TestWithin(t *testing.T) {
	low := cell("a", corner())
	half, twice := []api.Record{plain(), times(1, 2)}, []api.Record{plain(), times(2, 1)}
	odd := cell("a", shape(1, 1, 7, 3, 5, -9, 1, 1))
	comes(t, lib(odd, cell("b", ref("a", 0, 0, half...)), cell("c", ref("b", 0, 0, twice...))), made(1, 2, 1, 1, 7, 3, 5, -9))
	comes(t, lib(odd, cell("b", ref("a", 1, 0, half...)), cell("c", ref("b", 0, 3, twice...))), made(1, 2, 3, 4, 9, 6, 7, -6))
	eighth := []api.Record{plain(), turned(45)}
	comes(t, lib(low, cell("b", ref("a", 0, 0, eighth...)), cell("c", ref("b", 0, 0, eighth...))), made(1, 2, 0, 0, 0, 8, -2, 8, -4, 0))
	comes(t, lib(low, cell("b", ref("a", 10, 0, eighth...)), cell("c", ref("b", 100, 0, eighth...))), made(1, 2, 107, 7, 107, 15, 105, 15, 103, 7)) // 10/√2 is 7.07
	comes(t, lib(low, cell("b", ref("a", 0, 0, flipped())), cell("c", ref("b", 0, 0, plain(), turned(90)))), made(1, 2, 0, 0, 0, 8, 2, 8, 4, 0))
	comes(t, lib(low, cell("b", ref("a", 0, 0, plain(), turned(90))), cell("c", ref("b", 0, 0, flipped()))), made(1, 2, 0, 0, 0, -8, -2, -8, -4, 0))
	third := array("a", 3, 1, []int{0, 0, 1, 0, 0, 1}) // at 0, 1/3 and 2/3
	comes(t, lib(cell("a", shape(0, 0, 1, 0, 0, 1, 0, 0)), cell("b", third), cell("c", ref("b", 0, 0, plain(), times(3, 1)))), made(1, 2, 0, 0, 3, 0, 0, 3), made(1, 2, 1, 0, 4, 0, 1, 3), made(1, 2, 2, 0, 5, 0, 2, 3))
	l := cell("c", array("b", 2, 1, []int{0, 0, 200, 0, 0, 50}, plain(), turned(90)))
	comes(t, lib(cell("a", shape(0, 0, 1, 0, 0, 1, 0, 0)), cell("b", array("a", 1, 2, []int{0, 0, 50, 0, 0, 20})), l),
		made(1, 2, 0, 0, 0, 1, -1, 0), made(1, 2, -10, 0, -10, 1, -11, 0), made(1, 2, 100, 0, 100, 1, 99, 0), made(1, 2, 90, 0, 90, 1, 89, 0))
}

// P10.1: chains of references, some of several copies, some with shapes between them, come to what they come to one by one.
func TestChains(t *testing.T) {
	c := chance()
	for range 60 {
		u := lib(cell("n0", corner(), line([]int{0, 0, 50, 0}, longs(width, 7))))
		for i := 1; i < 12; i++ {
			below := "n" + string(rune('a'+i-2))
			if i == 1 {
				below = "n0"
			}
			turn := []api.Record{bits(0x8000 * c.IntN(2)), times(1+c.IntN(24), 8), turned(45 * c.IntN(8))}
			l := []api.Item{ref(below, c.IntN(9), c.IntN(9), turn...)}
			switch c.IntN(6) {
			case 0:
				l = []api.Item{array(below, 1+c.IntN(2), 1+c.IntN(2), []int{0, 0, 50, c.IntN(9), 7, 90}, turn...)}
			case 1:
				l = append(l, square(c.IntN(9)))
			case 2:
				l = append(l, label(), spot(0, 0), line([]int{1, 2, 3, 4}))
			}
			u.Cells = append(u.Cells, cell("n"+string(rune('a'+i-1)), l...))
		}
		want, e := reckoned(valid(t, u))
		if e != api.OK {
			t.Fatal(e)
		}
		comes(t, u, want...)
	}
}

// P10.1: a PATH within references: Far takes its places by all of them at once, so two turns by 45 degrees may do what one may not.
func TestPathsWithin(t *testing.T) {
	eighth := []api.Record{plain(), turned(45)}
	steep, flush := line([]int{0, 0, 20, 10}, longs(width, 10)), line([]int{0, 0, 10, 0}, longs(width, 4))
	slant := line([]int{0, 0, 10, 10}, longs(width, 2))
	comes(t, lib(cell("a", steep), cell("b", ref("a", 0, 0, plain(), turned(90)))), made(5, 6, -4, -2, -14, 18, -6, 22, 4, 2))
	comes(t, lib(cell("a", steep), cell("b", ref("a", 0, 0, eighth...)), cell("c", ref("b", 100, 0, eighth...))), made(5, 6, 96, -2, 86, 18, 94, 22, 104, 2))
	comes(t, lib(cell("a", flush), cell("b", ref("a", 0, 0, eighth...))), made(5, 6, -1, 1, 6, 8, 8, 6, 1, -1))
	comes(t, lib(cell("a", slant), cell("b", ref("a", 0, 0, eighth...))), made(5, 6, -1, 0, -1, 14, 1, 14, 1, 0))
	comes(t, lib(cell("a", steep), cell("b", array("a", 3, 1, []int{0, 0, 1, 0, 0, 1}, flipped(), times(1, 2)))), // by 5/√5 = 2.236 or half of it
		made(5, 6, -1, -2, 9, -7, 11, -3, 1, 2), made(5, 6, -1, -2, 9, -7, 11, -3, 1, 2), made(5, 6, 0, -2, 10, -7, 12, -3, 2, 2))
}
