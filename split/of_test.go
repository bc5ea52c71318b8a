package split_test

import (
	"math/big"
	"strings"
	"testing"

	"pellicle/plane"
)

// told is segments, and their pieces.
type told struct{ what, l, want string }

// edges are the ways in which segments can lie, each by itself.
func edges() []told {
	return []told{
		{"no segment", "", ""},
		{"one segment", "0 0 to 3 1", "0 0 to 3 1"},
		{"one segment, from the greater end", "3 1 to 0 0", "0 0 to 3 1"},
		{"one upright segment", "2 5 to 2 1", "2 1 to 2 5"},
		{"one level segment", "5 2 to 1 2", "1 2 to 5 2"},
		{"one falling segment", "4 0 to 0 4", "0 4 to 4 0"},
		{"one point", "1 1 to 1 1", ""},
		{"one point twice", "1 1 to 1 1, 1 1 to 1 1", ""},
		{"a point at the lesser end", "0 0 to 4 2, 0 0 to 0 0", "0 0 to 4 2"},
		{"a point at the greater end", "4 2 to 4 2, 0 0 to 4 2", "0 0 to 4 2"},
		{"a point within", "0 0 to 4 2, 2 1 to 2 1", "0 0 to 2 1, 2 1 to 4 2"},
		{"a point within, twice", "2 1 to 2 1, 0 0 to 4 2, 2 1 to 2 1", "0 0 to 2 1, 2 1 to 4 2"},
		{"a point on the line, ahead", "0 0 to 4 2, -2 -1 to -2 -1", "0 0 to 4 2"},
		{"a point on the line, beyond", "0 0 to 4 2, 6 3 to 6 3", "0 0 to 4 2"},
		{"a point beside", "0 0 to 4 2, 2 2 to 2 2", "0 0 to 4 2"},
		{"a point where two cross", "0 0 to 4 4, 0 4 to 4 0, 2 2 to 2 2", "0 0 to 2 2, 0 4 to 2 2, 2 2 to 4 0, 2 2 to 4 4"},
		{"a point within an upright one", "1 0 to 1 5, 1 2 to 1 2", "1 0 to 1 2, 1 2 to 1 5"},
		{"points about an upright one", "1 0 to 1 5, 1 -1 to 1 -1, 1 6 to 1 6, 0 2 to 0 2, 2 2 to 2 2", "1 0 to 1 5"},
		{"two that cross", "0 0 to 4 4, 0 4 to 4 0", "0 0 to 2 2, 0 4 to 2 2, 2 2 to 4 0, 2 2 to 4 4"},
		{"two that cross, one upright", "0 0 to 4 4, 1 -3 to 1 3", "0 0 to 1 1, 1 -3 to 1 1, 1 1 to 1 3, 1 1 to 4 4"},
		{"two that cross in a broken point", "0 0 to 3 1, 0 1 to 1 0", "0 0 to 3/4 1/4, 0 1 to 3/4 1/4, 3/4 1/4 to 1 0, 3/4 1/4 to 3 1"},
		{"two that touch in an end", "0 0 to 2 1, 2 1 to 3 5", "0 0 to 2 1, 2 1 to 3 5"},
		{"two that begin together", "0 0 to 2 1, 0 0 to 3 5", "0 0 to 2 1, 0 0 to 3 5"},
		{"two that end together", "0 0 to 5 5, 0 3 to 5 5", "0 0 to 5 5, 0 3 to 5 5"},
		{"an end within another one", "0 0 to 4 2, 2 1 to 2 5", "0 0 to 2 1, 2 1 to 2 5, 2 1 to 4 2"},
		{"an end within another one, from the other side", "0 0 to 4 2, 1 -7 to 2 1", "0 0 to 2 1, 1 -7 to 2 1, 2 1 to 4 2"},
		{"two of which the lines cross", "0 0 to 4 4, 5 0 to 9 -4", "0 0 to 4 4, 5 0 to 9 -4"},
		{"two of which one's line crosses the other", "0 0 to 4 4, 3 1 to 9 -5", "0 0 to 4 4, 3 1 to 9 -5"},
		{"side by side", "0 0 to 4 2, 0 1 to 4 3", "0 0 to 4 2, 0 1 to 4 3"},
		{"on one line, that overlap", "0 0 to 4 0, 6 0 to 2 0", "0 0 to 2 0, 2 0 to 4 0, 4 0 to 6 0"},
		{"on one line, that touch", "0 0 to 4 2, 4 2 to 6 3", "0 0 to 4 2, 4 2 to 6 3"},
		{"on one line, apart", "0 0 to 4 2, 6 3 to 8 4", "0 0 to 4 2, 6 3 to 8 4"},
		{"on one line, one within the other", "0 0 to 8 4, 2 1 to 6 3", "0 0 to 2 1, 2 1 to 6 3, 6 3 to 8 4"},
		{"on one line, with one beginning", "0 0 to 8 4, 0 0 to 6 3", "0 0 to 6 3, 6 3 to 8 4"},
		{"on one line, with one end", "0 0 to 8 4, 2 1 to 8 4", "0 0 to 2 1, 2 1 to 8 4"},
		{"on one line, three in a row", "4 0 to 9 0, 0 0 to 3 0, 2 0 to 5 0", "0 0 to 2 0, 2 0 to 3 0, 3 0 to 4 0, 4 0 to 5 0, 5 0 to 9 0"},
		{"on one line, two within one, apart", "0 0 to 9 0, 1 0 to 2 0, 7 0 to 8 0", "0 0 to 1 0, 1 0 to 2 0, 2 0 to 7 0, 7 0 to 8 0, 8 0 to 9 0"},
		{"the same twice", "0 0 to 2 0, 0 0 to 2 0", "0 0 to 2 0"},
		{"once in each direction", "0 0 to 2 0, 2 0 to 0 0", "0 0 to 2 0"},
		{"the same twice, and one across", "0 0 to 4 0, 4 0 to 0 0, 2 -1 to 2 1", "0 0 to 2 0, 2 -1 to 2 0, 2 0 to 2 1, 2 0 to 4 0"},
		{"two on one line apart, and one between them", "0 0 to 2 0, 4 0 to 6 0, 3 -1 to 3 1", "0 0 to 2 0, 3 -1 to 3 1, 4 0 to 6 0"},
		{"two on one line that overlap, and one across both", "0 0 to 4 0, 2 0 to 6 0, 3 -1 to 3 1", "0 0 to 2 0, 2 0 to 3 0, 3 -1 to 3 0, 3 0 to 3 1, 3 0 to 4 0, 4 0 to 6 0"},
		{"two on one line that touch, and one through there", "0 0 to 3 0, 3 0 to 6 0, 3 -1 to 3 1", "0 0 to 3 0, 3 -1 to 3 0, 3 0 to 3 1, 3 0 to 6 0"},
		{"three through one point", "0 0 to 4 4, 0 4 to 4 0, 0 2 to 4 2", "0 0 to 2 2, 0 2 to 2 2, 0 4 to 2 2, 2 2 to 4 0, 2 2 to 4 2, 2 2 to 4 4"},
		{"four through one point, one upright, one level", "0 0 to 4 4, 0 4 to 4 0, 0 2 to 4 2, 2 0 to 2 4",
			"0 0 to 2 2, 0 2 to 2 2, 0 4 to 2 2, 2 0 to 2 2, 2 2 to 2 4, 2 2 to 4 0, 2 2 to 4 2, 2 2 to 4 4"},
		{"one that begins, one that ends where two cross", "0 0 to 4 4, 0 4 to 4 0, 2 2 to 9 3, 1 9 to 2 2",
			"0 0 to 2 2, 0 4 to 2 2, 1 9 to 2 2, 2 2 to 4 0, 2 2 to 4 4, 2 2 to 9 3"},
		{"three that make a triangle within", "0 0 to 6 6, 0 4 to 6 0, 0 3 to 6 3", "0 0 to 12/5 12/5, 0 3 to 3/2 3, 0 4 to 3/2 3, 3/2 3 to 12/5 12/5, 3/2 3 to 3 3, 12/5 12/5 to 3 3, 12/5 12/5 to 6 0, 3 3 to 6 3, 3 3 to 6 6"},
		{"one that many cut", "0 0 to 8 0, 1 -1 to 1 1, 3 0 to 3 0, 4 0 to 4 5, 7 -2 to 7 0, 9 -1 to 9 1", "0 0 to 1 0, 1 -1 to 1 0, 1 0 to 1 1, 1 0 to 3 0, 3 0 to 4 0, 4 0 to 4 5, 4 0 to 7 0, 7 -2 to 7 0, 7 0 to 8 0, 9 -1 to 9 1"},
		{"an upright one that many cut", "0 0 to 0 8, -1 1 to 1 1, 0 3 to 0 3, 0 4 to 5 4, -2 7 to 0 7, -1 9 to 1 9", "-2 7 to 0 7, -1 1 to 0 1, -1 9 to 1 9, 0 0 to 0 1, 0 1 to 0 3, 0 1 to 1 1, 0 3 to 0 4, 0 4 to 0 7, 0 4 to 5 4, 0 7 to 0 8"},
	}
}

// P14.1: the pieces, each once, rising, written out; in all orders that are told of, from either end, and seen otherwise.
func TestOf(t *testing.T) {
	for _, x := range edges() {
		l, want := ways(x.l), ways(x.want)
		splits(t, l, want)
		for _, v := range views() {
			seen, hoped := v.ways(l), v.pieces(want)
			splits(t, seen, hoped)
			splits(t, reversed(seen), hoped)
			splits(t, backs(seen, 1), hoped)
			splits(t, backs(reversed(seen), 2), hoped)
		}
	}
}

// P14.1: the chapter's words on the edges above, told by the second reckoning: it holds that one to them as well.
func TestOracle(t *testing.T) {
	for _, x := range edges() {
		if got := text(cut(ways(x.l))); got != x.want {
			t.Fatalf("the test is wrong: %s: %s", x.what, got)
		}
	}
}

// P14.1: all threes of segments between the points of a small grid, those of one point among them.
func TestOfThrees(t *testing.T) {
	var all []way
	for i := range int64(9) {
		for j := range i + 1 {
			all = append(all, from(i/3, i%3, j/3, j%3))
		}
	}
	made := segs(all)
	for i, w := range all {
		for j, v := range all[:i+1] {
			for k, u := range all[:j+1] {
				l := []way{w, v, u}
				if got := texts(pieces(t, []plane.Seg{made[i], made[j], made[k]})); got != text(cut(l)) {
					t.Fatalf("%s: %s, want %s", text(l), got, text(cut(l)))
				}
			}
		}
	}
}

// P14.1: many segments, close together and far apart, whole, broken and long, by the second reckoning.
func TestOfMany(t *testing.T) {
	c := chain(88172645463325252)
	for k := range 500 {
		l := c.ways(int(c.within(2, 14)), c.within(1, 5), 1+int64(k%2))
		splits(t, l, cut(l))
	}
	for range 25 {
		l := c.ways(24, 1000, 9)
		l = append(l, c.ways(12, 4, 2)...)
		splits(t, l, cut(l))
	}
	l := c.ways(14, 1<<60, 1<<50)
	splits(t, l, cut(l))
}

// P14.1: segments that share ends, lines and points: between points that lie on a few segments.
func TestOfEntangled(t *testing.T) {
	c := chain(362436069)
	for range 120 {
		l := c.ways(3, 6, 2)
		var on []spot
		for _, w := range l {
			for sixths := range int64(5) {
				on = append(on, w.along(ratio(2*sixths, 6)))
			}
		}
		for range 9 {
			l = append(l, way{on[c.within(0, 14)], on[c.within(0, 14)]})
		}
		splits(t, l, cut(l))
	}
}

// P14.1: segments of numbers of many digits: what all but meets isn't cut, what just meets is.
func TestOfClose(t *testing.T) {
	tiny := over(ratio(1, 1), power(200))
	w := way{spot{power(40), ratio(-1, 3)}, spot{ratio(1, 7), power(41)}}
	for _, part := range []*big.Rat{ratio(1, 3), ratio(1, 2), ratio(99, 100)} {
		p := w.along(part)
		far := p.plus(at(-5, -9))
		for _, x := range []struct {
			v      way
			pieces int
		}{
			{way{far, p.minus(spot{tiny, ratio(0, 1)})}, 2}, // ends just ahead of w
			{way{far, p}, 3},
			{way{far, p.plus(spot{tiny, ratio(0, 1)})}, 4}, // ends just behind it
			{way{p, p}, 2},
			{way{p.plus(spot{tiny, tiny}), p.plus(spot{tiny, tiny})}, 1},
			{way{w.a.plus(spot{tiny, tiny}), w.b.plus(spot{tiny, tiny})}, 2},      // beside all of w
			{way{w.a.plus(spot{tiny, tiny}), w.b.minus(spot{tiny, tiny})}, 4},     // all but on it
			{way{w.along(negated(tiny)), w.along(part)}, 3},                       // on its line
			{way{w.along(negated(tiny)), w.along(negated(times(tiny, tiny)))}, 2}, // on its line, just ahead
		} {
			l := []way{w, x.v}
			want := cut(l)
			if len(want) != x.pieces {
				t.Fatal("the test is wrong:", len(want), "for", x.pieces)
			}
			splits(t, l, want)
		}
	}
}

// P14.1: segments between points of hundreds of digits.
func TestOfLong(t *testing.T) {
	digits := strings.Repeat("9081726354", 40)
	l := ways("0 0 to " + digits + " " + digits + ", 0 " + digits + " to " + digits + " 0, 1/" + digits + " -1 to 1/" + digits + " 1")
	half := over(l[0].b.x, ratio(2, 1)).RatString()
	near := "1/" + digits
	splits(t, l, ways("0 0 to "+near+" "+near+
		", 0 "+digits+" to "+half+" "+half+
		", "+near+" -1 to "+near+" "+near+
		", "+near+" "+near+" to "+near+" 1"+
		", "+near+" "+near+" to "+half+" "+half+
		", "+half+" "+half+" to "+digits+" 0"+
		", "+half+" "+half+" to "+digits+" "+digits))
}
