package split_test

import (
	"reflect"
	"slices"
	"strings"
	"testing"

	"pellicle/api"
	"pellicle/frac"
	"pellicle/plane"
	"pellicle/split"
	"pellicle/zed"
)

// lists are segments of all kinds: the edges, scattered ones, those that share lines and ends, broken and long ones.
func lists() [][]way {
	var out [][]way
	for i, x := range edges() {
		out = append(out, ways(x.l), views()[i%len(views())].ways(ways(x.l)))
	}
	c := chain(271828)
	for k := range 60 {
		l := c.ways(int(c.within(2, 16)), c.within(2, 6), 1+int64(k%3))
		w := l[0]
		for range k % 4 {
			l = append(l, way{w.along(ratio(c.within(-2, 5), 3)), w.along(ratio(c.within(-2, 5), 3))})
		}
		out = append(out, l)
	}
	return append(out, c.ways(9, 1<<60, 1<<20))
}

// P14.2: two pieces have at most an end of both in common; each goes from its lesser end to the greater one, and is less than the next.
func TestPiecesMeetInEnds(t *testing.T) {
	for _, l := range lists() {
		got := pieces(t, segs(l))
		if !rises(got) {
			t.Fatal(short(text(l)), ":", short(texts(got)))
		}
		for i, s := range got {
			for _, u := range got[:i] {
				both := plane.Meet(s, u)
				if len(both) == 0 {
					continue
				}
				if len(both) > 1 || !isEnd(s, both[0]) || !isEnd(u, both[0]) {
					t.Fatal(short(text(l)), ":", texts([]plane.Seg{s, u}))
				}
			}
		}
	}
}

func isEnd(s plane.Seg, p plane.Pt) bool { return p.Cmp(s.A) == 0 || p.Cmp(s.B) == 0 }

// P14.1, P14.2: the pieces on a segment go from its one end to the other without a gap, the next one from where the last one ends; each of them lies on a segment.
func TestPiecesAreAll(t *testing.T) {
	for _, l := range lists() {
		got, used := pieces(t, segs(l)), map[int]bool{}
		for _, w := range l {
			w = w.rising()
			s, here := w.seg(), w.a.point()
			for i, u := range got {
				if plane.On(s, u.A) && plane.On(s, u.B) {
					if u.A.Cmp(here) != 0 {
						t.Fatal(short(text(l)), ":", u.A.Text(), "behind", here.Text())
					}
					here, used[i] = u.B, true
				}
			}
			if here.Cmp(s.B) != 0 {
				t.Fatal(short(text(l)), ":", w.text(), "ends at", here.Text())
			}
		}
		if len(used) != len(got) {
			t.Fatal(short(text(l)), ":", short(texts(got)))
		}
	}
}

// P14.2: the pieces of pieces are the pieces, in whatever order and direction they are handed in, and with points at their ends.
func TestPiecesOfPieces(t *testing.T) {
	for _, l := range lists() {
		got := pieces(t, segs(l))
		want := texts(got)
		again, other := slices.Clone(got), slices.Clone(got)
		for i, s := range got {
			again = append(again, plane.Seg{A: s.A, B: s.A}, plane.Seg{A: s.B, B: s.B})
			other[len(got)-1-i] = plane.Seg{A: s.B, B: s.A}
		}
		for _, x := range [][]plane.Seg{got, again, other, slices.Concat(got, other)} {
			if told := texts(pieces(t, x)); told != want {
				t.Fatal(short(want), ":", short(told))
			}
		}
	}
}

// P14.2: of many segments too.
func TestPiecesOfManyPieces(t *testing.T) {
	var l []plane.Seg
	for i := range 70 {
		l = append(l, grid(0, 10*i, 700, 10*i+i%3), grid(10*i+i%5, 0, 10*i, 700))
	}
	got := pieces(t, l)
	if len(got) < 2*70*69 || !rises(got) {
		t.Fatal("the test is wrong:", len(got))
	}
	back := slices.Clone(got)
	slices.Reverse(back)
	for i := range back {
		if i%3 == 0 {
			back[i].A, back[i].B = back[i].B, back[i].A
		}
	}
	if texts(pieces(t, back)) != texts(got) {
		t.Fatal("the pieces of pieces are others")
	}
}

// P14.2: the pieces hang neither on the order of the segments nor on the direction of each, nor on how often each is told.
func TestToldOtherwise(t *testing.T) {
	c := chain(161803)
	for _, l := range lists() {
		want := texts(pieces(t, segs(l)))
		for k := range 6 {
			other := backs(l, k+1)
			for i := range other {
				j := c.within(0, int64(i))
				other[i], other[j] = other[j], other[i]
			}
			if k%2 == 1 {
				other = append(other, l[:len(l)/2]...)
			}
			if got := texts(pieces(t, segs(other))); got != want {
				t.Fatal(short(text(other)), ":", short(got), "want", short(want))
			}
		}
	}
}

// rooms are the places at which the slices within a value begin.
func rooms(v reflect.Value) []uintptr {
	var out []uintptr
	switch v.Kind() {
	case reflect.Struct:
		for i := range v.NumField() {
			out = append(out, rooms(v.Field(i))...)
		}
	case reflect.Slice:
		if v.Cap() > 0 {
			out = append(out, v.Pointer())
		}
		for i := range v.Len() {
			out = append(out, rooms(v.Index(i))...)
		}
	}
	return out
}

// P14.3: an answer shares no memory with an argument, nor with another answer, nor two of its pieces any with each other.
func TestMemoryIsNotShared(t *testing.T) {
	for _, l := range lists() {
		made := segs(l)
		seen := map[uintptr]bool{}
		for _, r := range rooms(reflect.ValueOf(made)) {
			seen[r] = true
		}
		var kept [][]plane.Seg // so that no room is given out again
		for range 2 {
			got := pieces(t, made)
			kept = append(kept, got)
			for _, r := range rooms(reflect.ValueOf(got)) {
				if seen[r] {
					t.Fatal("memory is shared:", short(text(l)))
				}
				seen[r] = true
			}
		}
		if texts(kept[0]) != texts(kept[1]) {
			t.Fatal("an answer changed")
		}
	}
}

// P14.3: the list isn't changed, nor the room behind its end, nor its order; it isn't kept: what is done to it, or to an answer, changes no answer.
func TestArgumentsStay(t *testing.T) {
	for _, l := range lists() {
		if len(l) < 2 {
			continue
		}
		made := segs(l)
		got := pieces(t, made[:len(l)-1])
		told := texts(got)
		if !reflect.DeepEqual(made, segs(l)) {
			t.Fatal("an argument changed:", short(text(l)))
		}
		split.Less(made[0], made[1])
		for i := range made {
			made[i] = plane.Seg{}
		}
		if texts(got) != told {
			t.Fatal("an answer changed")
		}
		for i := range got {
			got[i] = plane.Seg{}
		}
		if texts(pieces(t, segs(l[:len(l)-1]))) != told {
			t.Fatal("an answer changed")
		}
	}
}

// P1: every call ends, and none panics, at all arguments: lists of no segment, of zero values, of huge numbers.
func TestAllCallsEnd(t *testing.T) {
	defer func() {
		if x := recover(); x != nil {
			t.Fatal("panic:", x)
		}
	}()
	digits := strings.Repeat("7310942586", 50)
	long, _ := frac.Parse("-" + digits + "/9" + digits)
	whole, _ := zed.Parse(digits)
	longer := frac.Whole(whole.Mul(whole).Mul(whole))
	l := []plane.Pt{{}, {X: long}, {Y: long}, {X: long, Y: longer}, {X: longer.Neg(), Y: longer}, plane.Grid(api.Pt{X: lowest, Y: top}), plane.Grid(api.Pt{X: -1, Y: 1})}
	var all []plane.Seg
	for _, p := range l {
		for _, q := range l {
			s := plane.Seg{A: p, B: q}
			all = append(all, s)
			split.Less(s, plane.Seg{A: q, B: p})
			for i := range all {
				split.Less(s, all[i])
			}
		}
	}
	if got := pieces(t, all); !rises(got) {
		t.Fatal(len(got))
	}
	if got, e := split.Of(nil); len(got) != 0 || e != api.OK {
		t.Fatal(got, e)
	}
	if got, e := split.Of([]plane.Seg{}); len(got) != 0 || e != api.OK {
		t.Fatal(got, e)
	}
	if got, e := split.Of(make([]plane.Seg, 1<<20)); len(got) != 0 || e != api.ErrLong {
		t.Fatal(len(got), e)
	}
}
