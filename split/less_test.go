package split_test

import (
	"testing"

	"pellicle/plane"
	"pellicle/split"
)

// P14.1: Less by A, then B, of equal ones neither is less; segments as they are told, whichever end is the lesser one.
func TestLess(t *testing.T) {
	for _, x := range []struct {
		pair string
		want bool // is the first one less, and the second one not?
	}{
		{"0 0 to 1 1, 1 0 to 2 0", true},  // by A's X
		{"0 0 to 9 9, 0 1 to 1 0", true},  // by A's Y
		{"0 0 to 1 5, 0 0 to 2 0", true},  // by B's X
		{"0 0 to 1 0, 0 0 to 1 1", true},  // by B's Y
		{"0 0 to 9 9, 1 0 to 2 0", true},  // B the other way
		{"0 1 to 0 0, 0 2 to -1 0", true}, // from the greater end
		{"0 1 to 0 0, 0 1 to 0 2", true},
		{"-2 0 to 5 0, -1 0 to 0 0", true},
		{"0 0 to 0 0, 0 0 to 0 1", true}, // of one point
		{"0 0 to 0 -1, 0 0 to 0 0", true},
		{"0 0 to 1/3 0, 0 0 to 1/2 0", true},
		{"1/3 0 to 0 0, 1/2 0 to 0 0", true},
		{"0 -1/2 to 0 0, 0 -1/3 to 0 0", true},
		{"1 2 to 3 4, 1 2 to 3 4", false}, // equal
		{"2/4 1 to 3 6/9, 1/2 1 to 3 2/3", false},
		{"0 0 to 0 0, 0 0 to 0 0", false},
		{"7 7 to 7 7, 7/1 7 to 7 14/2", false},
	} {
		l := segs(ways(x.pair))
		if split.Less(l[0], l[1]) != x.want || split.Less(l[1], l[0]) {
			t.Fatal(x.pair, split.Less(l[0], l[1]), split.Less(l[1], l[0]))
		}
	}
	if split.Less(plane.Seg{}, plane.Seg{}) || !split.Less(plane.Seg{}, from(0, 0, 0, 1).seg()) {
		t.Fatal("the zero value isn't 0 0 to 0 0")
	}
}

// P14.1: Less by another reckoning, of segments of all kinds, each with each.
func TestLessMany(t *testing.T) {
	c := chain(55555)
	var l []way
	tiny := over(ratio(1, 1), power(90))
	for range 12 {
		w := c.way(2, 2)
		l = append(l, w, w.back(), way{w.a, w.a}, way{w.a, w.b.plus(spot{tiny, negated(tiny)})}, way{w.a.plus(spot{negated(tiny), tiny}), w.b})
	}
	l = append(l, c.ways(20, 1<<60, 1<<40)...)
	l = append(l, way{at(lowest, top), at(top, lowest)}, way{spot{power(99), power(98)}, at(0, 0)})
	made := segs(l)
	for i, w := range l {
		for j, v := range l {
			if split.Less(made[i], made[j]) != (w.order(v) < 0) {
				t.Fatal(w.text(), ",", v.text(), split.Less(made[i], made[j]))
			}
		}
	}
}
