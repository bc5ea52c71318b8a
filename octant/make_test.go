package octant_test

import (
	"math/big"
	"testing"

	"pellicle/api"
	"pellicle/frac"
	"pellicle/octant"
	"pellicle/zed"
)

// P8.1: a Turn tells what it was made of, and moves 0 0 to where it was told to.
func TestMake(t *testing.T) {
	for _, w := range ways() {
		isWay(t, "Make", w.turn(t), w)
	}
	long := new(big.Rat).SetFrac(new(big.Int).Exp(big.NewInt(7), big.NewInt(900), nil), new(big.Int).Exp(big.NewInt(10), big.NewInt(1000), nil))
	w := way{true, long, 5, spot{flat(new(big.Rat).Inv(long)), flat(new(big.Rat).Neg(long))}}
	isWay(t, "Make", w.turn(t), w)
}

// P8.1: the zero value leaves all points where they are.
func TestZeroTurn(t *testing.T) {
	var none octant.Turn
	isWay(t, "the zero value", none, way{false, ratio(1, 1), 0, at(0, 0)})
	for _, p := range points() {
		isPlace(t, "the zero value", none.At(p), spotOf(p))
	}
	p := spot{number{ratio(1, 2), ratio(-3, 7)}, number{ratio(0, 1), ratio(5, 1)}}
	got, e := none.Far(p.place())
	if e != api.OK {
		t.Fatalf("Far: error %d", e)
	}
	isPlace(t, "Far", got, p)
}

// P8.1: an octant that isn't from 0 to 7 is ErrArg, whatever the mag is; a mag that isn't above 0 is ErrRange. Beside an error there is the zero value.
func TestMakeWrong(t *testing.T) {
	mags := []*big.Rat{ratio(1, 1), ratio(2, 3), ratio(9, 1), ratio(0, 1), ratio(-1, 1), ratio(-1, 1000), ratio(-1<<62, 1)}
	octants := []int{0, 1, 2, 3, 4, 5, 6, 7, -1, -2, -7, -8, -9, 8, 9, 15, 16, 1 << 32, -1 << 32, least, most}
	for _, mag := range mags {
		for _, k := range octants {
			want := api.OK
			switch {
			case k < 0 || k > 7:
				want = api.ErrArg
			case mag.Sign() <= 0:
				want = api.ErrRange
			}
			for _, flip := range []bool{false, true} {
				a, e := octant.Make(flip, rational(mag), k, frac.Whole(zed.Of(2)), frac.Whole(zed.Of(3)))
				if e != want {
					t.Fatalf("mag %s, octant %d: error %d, want %d", mag, k, e, want)
				}
				if e != api.OK {
					noTurn(t, "beside an error", a)
				}
			}
		}
	}
	if a, e := octant.Make(true, frac.Rat{}, 3, frac.Rat{}, frac.Rat{}); e != api.ErrRange {
		t.Fatal(a, e)
	}
}
