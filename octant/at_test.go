package octant_test

import (
	"math/big"
	"testing"

	"pellicle/api"
	"pellicle/octant"
)

// P8.3: At takes each point of the grid, also those beyond its numbers, where the words say, in the field 2, 0.
func TestAt(t *testing.T) {
	for _, w := range ways() {
		a := w.turn(t)
		for _, p := range points() {
			isPlace(t, "At", a.At(p), w.takes(spotOf(p)))
		}
	}
}

// P8.3: where each octant takes a point, with and without flip, written out.
func TestAtOctants(t *testing.T) {
	root := func(n int64) number { return number{new(big.Rat), ratio(n, 2)} }
	for k, x := range []struct{ straight, flipped spot }{ // of 3 1
		{at(3, 1), at(3, -1)},
		{spot{root(2), root(4)}, spot{root(4), root(2)}},
		{at(-1, 3), at(1, 3)},
		{spot{root(-4), root(2)}, spot{root(-2), root(4)}},
		{at(-3, -1), at(-3, 1)},
		{spot{root(-2), root(-4)}, spot{root(-4), root(-2)}},
		{at(1, -3), at(-1, -3)},
		{spot{root(4), root(-2)}, spot{root(2), root(-4)}},
	} {
		p := api.Pt{X: 3, Y: 1}
		isPlace(t, "At", way{false, ratio(1, 1), k, at(0, 0)}.turn(t).At(p), x.straight)
		isPlace(t, "At, flipped", way{true, ratio(1, 1), k, at(0, 0)}.turn(t).At(p), x.flipped)
	}
}

// P8.3: first the flip, then the mag, then the turn, then the move.
func TestAtOrder(t *testing.T) {
	a := way{true, ratio(3, 2), 2, spot{flat(ratio(1, 4)), flat(ratio(100, 1))}}.turn(t)
	isPlace(t, "At", a.At(api.Pt{X: 4, Y: 2}), spot{flat(ratio(13, 4)), flat(ratio(106, 1))})
}

// P8.3: Whole is the point itself, of the field 2, 0.
func TestWhole(t *testing.T) {
	for _, p := range points() {
		isPlace(t, "Whole", octant.Whole(p), spotOf(p))
	}
}
