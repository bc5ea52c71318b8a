package outline_test

import (
	"slices"
	"testing"

	"pellicle/api"
)

// repeat gives n points, going about those of l.
func repeat(l []api.Pt, n int) []api.Pt {
	var out []api.Pt
	for i := range n {
		out = append(out, l[i%len(l)])
	}
	return out
}

// P9.1: more than 8191 points are ErrLong, all like ones too.
func TestTooManyPoints(t *testing.T) {
	var zigzag []api.Pt
	for i := range api.MaxPoints + 1 {
		zigzag = append(zigzag, api.Pt{X: i, Y: i % 2})
	}
	way{zigzag, 4, 0, 0, 0}.fails(t, api.ErrLong)
	way{zigzag[:api.MaxPoints], 4, 0, 0, 0}.places(t)
	way{repeat(row(1, 1), api.MaxPoints+1), 4, 0, 0, 0}.fails(t, api.ErrLong)
	way{repeat(row(1, 1), 3*api.MaxPoints), 4, 0, 0, 0}.fails(t, api.ErrLong)
	way{repeat(row(1, 1), api.MaxPoints), 4, 0, 0, 0}.fails(t, api.ErrNone)
}

// P9.1: kinds but 0, 1, 2 and 4 are ErrArg.
func TestKinds(t *testing.T) {
	l := row(0, 0, 10, 0)
	for kind := -20; kind <= 300; kind++ {
		w := way{l, 4, kind, 0, 0}
		if slices.Contains([]int{0, 1, 2, 4}, kind) {
			w.places(t)
			continue
		}
		w.fails(t, api.ErrArg)
	}
	for _, kind := range []int{least, most, 1 << 32, 1<<32 + 1, -1 << 32, 1<<62 + 4} {
		way{l, 4, kind, 0, 0}.fails(t, api.ErrArg)
	}
}

// P9.1: a width that isn't from 1 to MaxCoord is ErrArg, and begin or end that isn't from -MaxCoord to MaxCoord, with all kinds.
func TestBeyondLimits(t *testing.T) {
	l := row(0, 0, 10, 0)
	for _, kind := range []int{0, 1, 2, 4} {
		for _, width := range []int{least, -high, -1, 0, high + 1, 1<<32 + 4, most} {
			way{l, width, kind, 0, 0}.fails(t, api.ErrArg)
		}
		for _, n := range []int{least, -1<<32 + 1, low - 1, low, high + 1, 1<<32 + 1, most} {
			way{l, 4, kind, n, 0}.fails(t, api.ErrArg)
			way{l, 4, kind, 0, n}.fails(t, api.ErrArg)
			way{l, 4, kind, n, n}.fails(t, api.ErrArg)
		}
		way{l, 1, kind, -high, high}.places(t)
		way{l, high, kind, high, -high}.places(t)
	}
}

// P9.1: a coordinate that isn't from -2^31 to 2^31 - 1 is ErrCoord, at each place of the row.
func TestCoordinates(t *testing.T) {
	l := row(0, 0, 100, 0, 100, 0, 200, 0, 300, 50)
	for i := range l {
		for _, n := range []int{least, -1 << 32, low - 1, high + 1, 1 << 32, 1<<32 + 7, most} {
			for _, p := range []api.Pt{{X: n, Y: 3}, {X: 3, Y: n}, {X: n, Y: n}, {X: n, Y: -n}} {
				far := slices.Clone(l)
				far[i] = p
				for _, kind := range []int{0, 1, 2, 4} {
					way{far, 4, kind, 0, 0}.fails(t, api.ErrCoord)
				}
			}
		}
	}
	far := row(high+1, 0, high+1, 0)
	way{far, 4, 0, 0, 0}.fails(t, api.ErrCoord)
	way{far[:1], 4, 0, 0, 0}.fails(t, api.ErrCoord)
	for _, l := range [][]api.Pt{row(low, 0, high, 0), row(0, high, 0, low), row(low, low, high, high)} {
		way{l, 4, 0, 0, 0}.places(t)
	}
}

// P9.1: fewer than two corners are ErrNone.
func TestNoCorners(t *testing.T) {
	for _, kind := range []int{0, 1, 2, 4} {
		way{nil, 4, kind, 0, 0}.fails(t, api.ErrNone)
		way{[]api.Pt{}, 4, kind, 0, 0}.fails(t, api.ErrNone)
		for _, p := range row(0, 0, 3, -7, low, high) {
			for n := 1; n < 5; n++ {
				way{repeat([]api.Pt{p}, n), 4, kind, 9, 9}.fails(t, api.ErrNone)
			}
		}
	}
}

// P9.1: a direction that is followed by its very opposite is ErrFeature, at once and behind points that are left out, wherever it stands.
func TestOpposites(t *testing.T) {
	for _, l := range [][]api.Pt{
		row(0, 0, 10, 0, 5, 0),
		row(0, 0, 10, 0, 0, 0),
		row(0, 0, 10, 0, -5, 0),
		row(0, 0, 0, 10, 0, 10, 0, 10, 0, 3),
		row(0, 0, 3, 3, 10, 10, 8, 8, 7, 7),
		row(0, 0, 3, 3, 3, 3, 10, 10, 10, 10, 8, 8, 8, 8, 7, 7),
		row(0, 0, 0, 0, 6, 4, 0, 0, 0, 0),
		row(0, 0, 6, 4, -3, -2, 0, 9),
		row(9, 9, 0, 9, 0, 0, 0, 1),
		row(0, 0, 10, 0, 10, 10, 10, 5, 0, 5),
		row(0, 0, 1, 0, 0, 0, 1, 0, 0, 0),
		row(low, low, high, high, low, low),
		row(low, low, high, high-1, low, low, 0, 0),
	} {
		for _, kind := range []int{0, 1, 2, 4} {
			way{l, 4, kind, 0, 0}.fails(t, api.ErrFeature)
			back := slices.Clone(l)
			slices.Reverse(back)
			way{back, 4, kind, 0, 0}.fails(t, api.ErrFeature)
		}
	}
	for _, d := range compass() {
		p := api.Pt{X: 2, Y: 1}
		q := ahead(p, d, 5)
		for n := -8; n < 5; n++ {
			way{[]api.Pt{p, q, ahead(p, d, n)}, 4, 0, 0, 0}.fails(t, api.ErrFeature)
		}
		for n := 6; n < 9; n++ {
			way{[]api.Pt{p, q, ahead(p, d, n)}, 4, 0, 0, 0}.places(t)
		}
	}
}

// P9.1: of a row as long as may be, the last direction is the opposite one.
func TestLateOpposite(t *testing.T) {
	var l []api.Pt
	for i := range api.MaxPoints {
		l = append(l, api.Pt{X: i, Y: i % 2})
	}
	n := api.MaxPoints
	l[n-1] = l[n-3]
	way{l, 4, 0, 0, 0}.fails(t, api.ErrFeature)
	l[n-2] = l[n-3]
	way{l, 4, 0, 0, 0}.places(t)
}

// P9.1: where several errors apply, the first is told.
func TestFirstError(t *testing.T) {
	opposite, far := row(0, 0, 9, 0, 4, 0), row(0, 0, high+1, 0, 4, 0)
	type mistake struct {
		pts  []api.Pt
		want api.Errno
	}
	var rows []mistake
	for _, x := range []mistake{
		{row(0, 0, 10, 0, 10, 10), api.OK},
		{nil, api.ErrNone},
		{row(5, 5), api.ErrNone},
		{row(5, 5, 5, 5), api.ErrNone},
		{opposite, api.ErrFeature},
		{far, api.ErrCoord},
		{row(low-1, 0, low-1, 0), api.ErrCoord},
		{append(slices.Clone(opposite), far...), api.ErrCoord},
	} {
		rows = append(rows, x)
		if len(x.pts) > 0 {
			rows = append(rows, mistake{repeat(x.pts, api.MaxPoints+1), api.ErrLong})
		}
	}
	for _, x := range rows {
		for _, a := range []struct{ width, kind, begin, end int }{
			{4, 3, 0, 0}, {0, 0, 0, 0}, {high + 1, 1, 0, 0}, {4, 2, low, 0}, {4, 4, 0, high + 1}, {-1, -1, most, least}, {4, 0, low, 0}, {4, 1, 0, low},
		} {
			want := api.ErrArg
			if x.want == api.ErrLong {
				want = api.ErrLong
			}
			way{x.pts, a.width, a.kind, a.begin, a.end}.fails(t, want)
		}
		if x.want == api.OK {
			way{x.pts, 4, 0, 0, 0}.places(t)
			continue
		}
		way{x.pts, 4, 4, 1, 2}.fails(t, x.want)
	}
}
