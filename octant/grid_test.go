package octant_test

import (
	"math/big"
	"testing"

	"pellicle/api"
	"pellicle/octant"
	"pellicle/surd"
	"pellicle/zed"
)

// grids holds Grid of a place against what it should be, which is ErrCoord, if a coordinate is beyond the grid's.
func grids(t *testing.T, p octant.Place, x, y *big.Int) {
	t.Helper()
	got, e := octant.Grid(p)
	if !onGrid(x) || !onGrid(y) {
		if e != api.ErrCoord || got != (api.Pt{}) {
			t.Fatalf("%s %s: %v, error %d", x, y, got, e)
		}
		return
	}
	if e != api.OK || int64(got.X) != x.Int64() || int64(got.Y) != y.Int64() {
		t.Fatalf("%v, error %d, want %s %s", got, e, x, y)
	}
}

func onGrid(n *big.Int) bool {
	return n.Cmp(big.NewInt(low)) >= 0 && n.Cmp(big.NewInt(high)) <= 0
}

// gridsSpot holds Grid of a place of the field 2, 0 against its nearest whole numbers.
func gridsSpot(t *testing.T, p spot) {
	t.Helper()
	grids(t, p.place(), p.x.near(), p.y.near())
}

// P8.4: Grid tells the nearest whole numbers, with and without √2.
func TestGrid(t *testing.T) {
	c := chain(88172645463325252)
	for range 400 {
		gridsSpot(t, c.spot(20, 6))
		gridsSpot(t, c.spot(1<<33, 9))
		p := c.spot(1<<20, 4)
		gridsSpot(t, spot{flat(p.x.one), p.y})
		gridsSpot(t, spot{p.x, flat(p.y.two)})
	}
}

// P8.4: of two whole numbers that are as near the even one.
func TestGridBetween(t *testing.T) {
	for n := int64(-9); n <= 9; n++ {
		for k := int64(-9); k <= 9; k++ {
			gridsSpot(t, spot{flat(ratio(n, 2)), flat(ratio(k, 2))})
		}
	}
	for _, x := range []struct{ n, want int64 }{{1, 0}, {3, 2}, {5, 2}, {7, 4}, {-1, 0}, {-3, -2}, {-5, -2}, {-7, -4}} {
		p := spot{flat(ratio(x.n, 2)), flat(ratio(-x.n, 2))}
		grids(t, p.place(), big.NewInt(x.want), big.NewInt(-x.want))
	}
	nine := of(zed.Of(9), zed.Of(25), ratio(0, 1), ratio(5, 6)) // √9 · 5/6 is 5/2
	more := of(zed.Of(9), zed.Of(25), ratio(0, 1), ratio(0, 1), ratio(0, 1), ratio(-7, 30))
	grids(t, octant.Place{X: nine, Y: more}, big.NewInt(2), big.NewInt(-4))
}

// P8.4: points that a Turn takes just between two whole numbers.
func TestGridOfTurns(t *testing.T) {
	half := way{false, ratio(1, 2), 0, at(0, 0)}
	for k := range 8 {
		for _, flip := range []bool{false, true} {
			half.octant, half.flip = k, flip
			a := half.turn(t)
			for n := int64(-8); n <= 8; n++ {
				p := api.Pt{X: int(n), Y: int(3 - 2*n)}
				want := half.takes(spotOf(p))
				grids(t, a.At(p), want.x.near(), want.y.near())
			}
		}
	}
	one := way{false, ratio(1, 1), 1, at(0, 0)}.turn(t)
	grids(t, one.At(api.Pt{X: 1}), big.NewInt(1), big.NewInt(1))
	grids(t, one.At(api.Pt{X: 10}), big.NewInt(7), big.NewInt(7))
	grids(t, one.Then(way{false, ratio(1, 1), 4, at(0, 0)}.turn(t)).At(api.Pt{X: 10}), big.NewInt(-7), big.NewInt(-7))
}

// edges are numbers at and about the grid's ends, and far beyond, without √2 and with it.
func edges() []number {
	var l []number
	tiny := new(big.Rat).SetFrac(big.NewInt(1), new(big.Int).Exp(big.NewInt(10), big.NewInt(90), nil))
	about := func(a number) {
		l = append(l, a, a.plus(flat(tiny)), a.plus(flat(tiny).neg()))
	}
	for _, end := range []int64{low - 1, low, high, high + 1} {
		for k := int64(-2); k <= 2; k++ {
			about(flat(ratio(2*end+k, 2)))
			twice := number{ratio(2*end+k, 2), ratio(1, 1)} // and √2, less what is just beside it
			below, above := beside()
			l = append(l, twice.plus(flat(below).neg()), twice.plus(flat(above).neg()))
		}
	}
	for _, end := range []int64{low, high, 1 << 32, -1 << 32, 1 << 62, -1 << 62} {
		l = append(l, number{ratio(0, 1), ratio(end, 1)}, number{ratio(end, 1), ratio(-end, 1)}, flat(ratio(end, 1)))
	}
	wide := new(big.Int).Lsh(big.NewInt(1), 64) // ends in the bits of 0
	return append(l, flat(new(big.Rat).SetInt(wide)), flat(new(big.Rat).SetInt(wide.Neg(wide))), flat(new(big.Rat).SetFrac(big.NewInt(1), wide)))
}

// beside are quotients just below and just above √2.
func beside() (below, above *big.Rat) {
	p, q := big.NewInt(1), big.NewInt(1) // p/q, then (p + 2q) / (p + q), is on the one side and the other by turns
	for range 101 {
		next := new(big.Int).Add(p, new(big.Int).Lsh(q, 1))
		below, above = new(big.Rat).SetFrac(p, q), new(big.Rat).SetFrac(next, new(big.Int).Add(p, q))
		p, q = next, new(big.Int).Add(p, q)
	}
	if below.Cmp(above) > 0 {
		return above, below
	}
	return below, above
}

// P8.4: a nearest number that isn't from -2^31 to 2^31 - 1 is ErrCoord, in x, in y, in both.
func TestGridEnds(t *testing.T) {
	zero := flat(ratio(0, 1))
	for _, a := range edges() {
		gridsSpot(t, spot{a, zero})
		gridsSpot(t, spot{zero, a})
		gridsSpot(t, spot{a, a})
		gridsSpot(t, spot{a, a.neg()})
	}
	for _, n := range []int64{low - 1, low, high, high + 1} {
		p := api.Pt{X: int(n), Y: 1}
		grids(t, octant.Whole(p), big.NewInt(n), big.NewInt(1))
		grids(t, octant.Whole(api.Pt{X: 1, Y: int(n)}), big.NewInt(1), big.NewInt(n))
	}
	for _, x := range []struct {
		n    int64 // of halves
		want api.Errno
	}{{2*high + 1, api.ErrCoord}, {2*low - 1, api.OK}, {2*high + 2, api.ErrCoord}, {2*low - 2, api.ErrCoord}} {
		if got, e := octant.Grid(spot{flat(ratio(x.n, 2)), zero}.place()); e != x.want {
			t.Fatal(x.n, got, e)
		}
	}
}

// P8.4: a place whose coordinates aren't of one field is asked likewise.
func TestGridUnlike(t *testing.T) {
	x := of(zed.Of(3), zed.Of(5), ratio(0, 1), ratio(1, 1), ratio(1, 1))                      // √3 + √5, 3.97
	y := of(zed.Of(2), zed.Of(0), ratio(0, 1), ratio(-7, 2))                                  // -4.95
	long := of(zed.Of(7), zed.Of(11), ratio(0, 1), ratio(0, 1), ratio(0, 1), ratio(1<<40, 1)) // beyond the grid's
	grids(t, octant.Place{X: x, Y: y}, big.NewInt(4), big.NewInt(-5))
	grids(t, octant.Place{X: y, Y: x}, big.NewInt(-5), big.NewInt(4))
	grids(t, octant.Place{Y: y}, big.NewInt(0), big.NewInt(-5))
	grids(t, octant.Place{}, big.NewInt(0), big.NewInt(0))
	for _, a := range []surd.Surd{x, y, {}} {
		for _, p := range []octant.Place{{X: a, Y: long}, {X: long, Y: a}} {
			if got, e := octant.Grid(p); e != api.ErrCoord || got != (api.Pt{}) {
				t.Fatal(got, e)
			}
		}
	}
}
