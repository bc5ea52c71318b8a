package octant_test

import (
	"math/big"
	"reflect"
	"testing"

	"pellicle/api"
	"pellicle/frac"
	"pellicle/octant"
	"pellicle/surd"
	"pellicle/zed"
)

// tells gives all that a Turn tells of itself.
func tells(a octant.Turn) string {
	out := a.Mag().Text() + " " + string(rune('0'+a.Octant()))
	if a.Flip() {
		out += " flip"
	}
	move := a.Move()
	for _, x := range []surd.Surd{move.X, move.Y} {
		for _, part := range x.Parts() {
			out += " " + part.Text()
		}
	}
	return out
}

// P8.5: Turns one behind the other hang on their order alone, not on how they are put together.
func TestThreeTurns(t *testing.T) {
	l := few(17)
	for i, v := range l {
		a := v.turn(t)
		for j, w := range l {
			b := w.turn(t)
			c := l[(i*5+j*3)%len(l)].turn(t)
			first, second := a.Then(b).Then(c), a.Then(b.Then(c))
			if tells(first) != tells(second) {
				t.Fatalf("%s and %s", tells(first), tells(second))
			}
			p := api.Pt{X: 11, Y: -3}
			likePlaces(t, "three", first.At(p), second.At(p))
			q, e := c.Far(a.Then(b).At(p))
			if e != api.OK {
				t.Fatalf("Far: error %d", e)
			}
			likePlaces(t, "one by one", first.At(p), q)
		}
	}
}

// P8.5: a long row of Turns, put together from the front, from behind and in pairs.
func TestManyTurns(t *testing.T) {
	l := few(37)
	var front, back octant.Turn
	pairs := []octant.Turn{}
	for i, w := range l {
		front = front.Then(w.turn(t))
		back = l[len(l)-1-i].turn(t).Then(back)
		pairs = append(pairs, w.turn(t))
	}
	for len(pairs) > 1 {
		var half []octant.Turn
		for i := 0; i+1 < len(pairs); i += 2 {
			half = append(half, pairs[i].Then(pairs[i+1]))
		}
		if len(pairs)%2 == 1 {
			half = append(half, pairs[len(pairs)-1])
		}
		pairs = half
	}
	if tells(front) != tells(back) || tells(front) != tells(pairs[0]) {
		t.Fatalf("%s, %s, %s", tells(front), tells(back), tells(pairs[0]))
	}
	p, q := spotOf(api.Pt{X: 2, Y: 9}), front.At(api.Pt{X: 2, Y: 9})
	for _, w := range l {
		p = w.takes(p)
	}
	isPlace(t, "many", q, p)
}

// square is how far the places are from one another, squared.
func square(t *testing.T, p, q octant.Place) surd.Surd {
	t.Helper()
	x, e := p.X.Sub(q.X)
	y, f := p.Y.Sub(q.Y)
	if e != api.OK || f != api.OK {
		t.Fatalf("errors %d, %d", e, f)
	}
	x, _ = x.Mul(x)
	y, _ = y.Mul(y)
	sum, _ := x.Add(y)
	return sum
}

// P8.5: distances are multiplied by mag.
func TestDistances(t *testing.T) {
	l := points()
	root := of(zed.Of(3), zed.Of(7), ratio(1, 2), ratio(-2, 3), ratio(5, 1), ratio(1, 9))
	places := []octant.Place{{X: root, Y: root.Neg()}, {X: root.Neg(), Y: of(zed.Of(3), zed.Of(7), ratio(4, 1))}}
	for _, w := range few(3) {
		a := w.turn(t)
		grown := ratio(1, 1).Mul(w.mag, w.mag)
		for i, p := range l {
			q := l[(i+4)%len(l)]
			by := of(zed.Of(2), zed.Of(0), grown)
			want, _ := square(t, octant.Whole(p), octant.Whole(q)).Mul(by)
			if order, e := square(t, a.At(p), a.At(q)).Cmp(want); order != 0 || e != api.OK {
				t.Fatal(p, q, order, e)
			}
		}
		if w.octant%2 == 0 {
			p, _ := a.Far(places[0])
			q, _ := a.Far(places[1])
			want, _ := square(t, places[0], places[1]).Mul(of(zed.Of(3), zed.Of(7), grown))
			if order, e := square(t, p, q).Cmp(want); order != 0 || e != api.OK {
				t.Fatal("of another field", order, e)
			}
		}
	}
}

// The rule on values: no call changes a Turn, a number or a place, and each answers the same again.
func TestValuesStay(t *testing.T) {
	for _, w := range few(7) {
		mag, x, y := rational(w.mag), rational(w.move.x.one), rational(w.move.y.one)
		a, _ := octant.Make(w.flip, mag, w.octant, x, y)
		again, _ := octant.Make(w.flip, mag, w.octant, x, y)
		p := octant.Place{X: of(zed.Of(2), zed.Of(1), ratio(1, 2), ratio(2, 3), ratio(3, 4), ratio(4, 5)), Y: of(zed.Of(2), zed.Of(1), ratio(-5, 6))}
		kept := octant.Place{X: of(zed.Of(2), zed.Of(1), ratio(1, 2), ratio(2, 3), ratio(3, 4), ratio(4, 5)), Y: of(zed.Of(2), zed.Of(1), ratio(-5, 6))}
		first, _ := a.Far(p)
		b := a.Then(a)
		a.Then(octant.Turn{})
		a.At(api.Pt{X: 4, Y: 5})
		octant.Grid(p)
		octant.Grid(first)
		second, _ := a.Far(p)
		if !reflect.DeepEqual(a, again) || !reflect.DeepEqual(p, kept) || !reflect.DeepEqual(first, second) {
			t.Fatal("a value changed")
		}
		if !reflect.DeepEqual(b, a.Then(again)) || !reflect.DeepEqual(a.At(api.Pt{X: 1}), again.At(api.Pt{X: 1})) {
			t.Fatal("another answer")
		}
		if mag.Text() != w.mag.RatString() || x.Text() != w.move.x.one.RatString() || y.Text() != w.move.y.one.RatString() {
			t.Fatal("what was handed in changed")
		}
	}
}

// heavy are numbers that are hard to hold: huge, tiny, below 0.
func heavy() []frac.Rat {
	long := zed.Of(3)
	for range 13 {
		long = long.Mul(long)
	}
	whole := frac.Whole(long)
	tiny, _ := frac.Whole(zed.Of(1)).Div(whole)
	return []frac.Rat{{}, frac.Whole(zed.Of(1)), frac.Whole(zed.Of(least)), whole, whole.Neg(), tiny, tiny.Neg()}
}

// P1: every call ends, and none panics, at all arguments.
func TestAllCallsEnd(t *testing.T) {
	defer func() {
		if x := recover(); x != nil {
			t.Fatal("panic:", x)
		}
	}()
	turns := []octant.Turn{{}}
	for _, a := range heavy() {
		for _, b := range heavy() {
			for _, k := range []int{least, -1, 0, 3, 6, 7, 8, most} {
				x, e := octant.Make(true, a, k, b, a)
				if e == api.OK && k == 3 {
					turns = append(turns, x)
				}
			}
		}
	}
	places := []octant.Place{{}, octant.Whole(api.Pt{X: least, Y: most})}
	for i, a := range heavy() {
		for _, f := range []int{0, 1, 2, 3, most} {
			x, e := surd.Of(zed.Of(f), zed.Of(most-f), a, heavy()[(i+3)%7], a, a)
			if e != api.OK {
				t.Fatal(e)
			}
			places = append(places, octant.Place{X: x, Y: x.Neg()}, octant.Place{X: x})
		}
	}
	for i, a := range turns {
		b := a.Then(turns[(i+2)%len(turns)])
		for _, p := range []api.Pt{{X: least, Y: least}, {X: most, Y: least}} {
			octant.Grid(b.At(p))
		}
		for _, p := range places {
			b.Far(p)
			a.Far(p)
		}
		octant.Grid(b.Move())
	}
	for _, p := range places {
		octant.Grid(p)
	}
}

// The chapter's examples.
func TestExamples(t *testing.T) {
	one := ratio(1, 1)
	eighth := way{false, one, 1, at(0, 0)}.turn(t)
	half := number{new(big.Rat), ratio(1, 2)}
	isPlace(t, "octant 1 of 1 0", eighth.At(api.Pt{X: 1}), spot{half, half})
	for _, x := range []struct {
		p octant.Place
		q api.Pt
	}{
		{eighth.At(api.Pt{X: 1}), api.Pt{X: 1, Y: 1}},
		{way{true, one, 2, at(0, 0)}.turn(t).At(api.Pt{X: 3, Y: 1}), api.Pt{X: 1, Y: 3}},
	} {
		if got, e := octant.Grid(x.p); got != x.q || e != api.OK {
			t.Fatal(got, e, x.q)
		}
	}
	noTurn(t, "octant 1 and 7", eighth.Then(way{false, one, 7, at(0, 0)}.turn(t)))
}
