package octant_test

import (
	"testing"

	"pellicle/api"
	"pellicle/frac"
	"pellicle/octant"
	"pellicle/zed"
)

// P8.2: a.Then(b) takes each point where b takes what a takes it to, and tells with what it does so.
func TestThen(t *testing.T) {
	l := few(7)
	for _, v := range l {
		a := v.turn(t)
		for _, w := range l {
			b := w.turn(t)
			c := a.Then(b)
			told := way{c.Flip(), nil, c.Octant(), w.takes(v.move)}
			told.mag = ratio(1, 1).Mul(v.mag, w.mag)
			if told.octant < 0 || told.octant > 7 {
				t.Fatal("octant", told.octant)
			}
			isWay(t, "Then", c, told)
			for _, p := range []api.Pt{{X: 1}, {Y: 1}, {X: -3, Y: 8}} { // of these three alone a Turn's flip, mag, octant and move can be told
				want := w.takes(v.takes(spotOf(p)))
				isPlace(t, "At", c.At(p), want)
				isPlace(t, "as told", told.takes(spotOf(p)).place(), want)
			}
		}
	}
}

// P8.2: each octant behind each other one, with and without flips: a mirror behind a turn turns it about.
func TestThenOctants(t *testing.T) {
	one := ratio(1, 1)
	for k := range 8 {
		for l := range 8 {
			for flips := range 4 {
				v, w := way{flips&1 != 0, one, k, at(0, 0)}, way{flips&2 != 0, one, l, at(0, 0)}
				want := (k + l) % 8
				if w.flip {
					want = (8 + l - k) % 8
				}
				isWay(t, "Then", v.turn(t).Then(w.turn(t)), way{v.flip != w.flip, one, want, at(0, 0)})
			}
		}
	}
}

// P8.2: the Turn's move is told where it has √2, and where the second one's takes that away.
func TestThenMoves(t *testing.T) {
	one := frac.Whole(zed.Of(1))
	a, _ := octant.Make(false, one, 0, one, frac.Whole(zed.Of(-1)))
	b, _ := octant.Make(false, one, 1, frac.Rat{}, frac.Rat{})
	isPlace(t, "√2, 0", a.Then(b).Move(), spot{number{ratio(0, 1), ratio(1, 1)}, flat(ratio(0, 1))})
	isPlace(t, "turned by 90", a.Then(b).Then(b).Move(), at(1, 1))
	three, _ := octant.Make(true, frac.Whole(zed.Of(3)), 3, one, frac.Rat{})
	half, _ := frac.Of(1, 2)
	short, _ := octant.Make(false, half, 1, half, half)
	isWay(t, "three behind short", short.Then(three), way{true, ratio(3, 2), 2, spot{flat(ratio(1, 1)), number{ratio(0, 1), ratio(3, 2)}}})
	isWay(t, "short behind three", three.Then(short), way{true, ratio(3, 2), 4, spot{number{ratio(1, 2), ratio(1, 4)}, number{ratio(1, 2), ratio(1, 4)}}})
}

// P8.2: the zero value changes nothing, ahead and behind.
func TestThenZero(t *testing.T) {
	var none octant.Turn
	isWay(t, "none twice", none.Then(none), way{false, ratio(1, 1), 0, at(0, 0)})
	for _, w := range ways() {
		a := w.turn(t)
		isWay(t, "none behind", a.Then(none), w)
		isWay(t, "none ahead", none.Then(a), w)
	}
}

// The chapter's example: octant 1 and octant 7, one behind the other, are no turn.
func TestThenBack(t *testing.T) {
	one := ratio(1, 1)
	for k := range 8 {
		back := way{false, one, (8 - k) % 8, at(0, 0)}.turn(t)
		noTurn(t, "there and back", way{false, one, k, at(0, 0)}.turn(t).Then(back))
		flip := way{true, ratio(3, 5), k, at(0, 0)}.turn(t)
		noTurn(t, "a mirror twice", flip.Then(way{true, ratio(5, 3), k, at(0, 0)}.turn(t)))
	}
}
