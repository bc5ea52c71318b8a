package wind_test

import (
	"reflect"
	"slices"
	"strings"
	"testing"

	"pellicle/api"
	"pellicle/frac"
	"pellicle/plane"
	"pellicle/wind"
	"pellicle/zed"
)

// halves cuts a row in two by a way between its points i and j, i the lesser: the first half comes back by the way, the second goes along it.
func halves(l []spot, i, j int, by []spot) (first, second []spot) {
	first = append(slices.Clone(l[i:j+1]), back(by)...)
	second = append(append(slices.Clone(l[:i+1]), by...), l[j:]...)
	return first, second
}

// P13.3: cut in two by a way between two of its points, straight or not, a row goes around as often as both parts together, where the point lies on neither.
func TestAroundInTwo(t *testing.T) {
	c := chain(271828)
	told := 0
	for k := range 400 {
		l := c.row(2+k%9, 5, 1)
		i := c.within(0, int64(len(l)-1))
		j := c.within(i, int64(len(l)-1))
		first, second := halves(l, int(i), int(j), c.row(k%4, 6, 1))
		for range 12 {
			p := c.spot(12, 2)
			if lies(first, p) || lies(second, p) {
				continue
			}
			one, _ := wind.Around(grid(first), p.point())
			other, _ := wind.Around(grid(second), p.point())
			around(t, l, p, one+other, false)
			told++
		}
	}
	if told < 3000 {
		t.Fatal("the test is wrong:", told)
	}
}

// grid is a row that is on the grid.
func grid(l []spot) []api.Pt {
	g, ok := onGrid(l)
	if !ok {
		panic("the test is wrong")
	}
	return g
}

// P13.3: beside a segment too, the cut itself as well.
func TestBesideInTwo(t *testing.T) {
	c := chain(314159)
	told := 0
	for k := range 300 {
		l := c.row(2+k%9, 5, int64(1+k%3))
		i := c.within(0, int64(len(l)-1))
		j := c.within(i, int64(len(l)-1))
		first, second := halves(l, int(i), int(j), c.row(k%3, 6, 2))
		for _, s := range []way{{l[i], l[j]}, {c.spot(9, 2), c.spot(9, 2)}, sidesOf(l)[0]} {
			if !promised(first, s) || !promised(second, s) || !promised(l, s) {
				continue
			}
			a, b := wind.Beside(points(first), s.seg())
			x, y := wind.Beside(points(second), s.seg())
			besides(t, l, s, a+x, b+y)
			told++
		}
	}
	if told < 300 {
		t.Fatal("the test is wrong:", told)
	}
}

// P13.3: the chapter's square, cut by its diagonal: each half goes around one side of it.
func TestSquareInTwo(t *testing.T) {
	first, second := halves(square(), 0, 2, nil)
	s := from(0, 0, 4, 4)
	flanks(t, square(), s, 1, 1)
	flanks(t, first, s, 0, 1)
	flanks(t, second, s, 1, 0)
	asked(t, first, ask{at(3, 1), 1, false})
	asked(t, second, ask{at(3, 1), 0, false})
	asked(t, first, ask{at(2, 2), 0, true})
	asked(t, square(), ask{at(2, 2), 1, false})
}

// P13.3: a row told backwards, from elsewhere on, several times; with points put in on its sides; and turned, mirrored, moved.
func TestToldOtherwise(t *testing.T) {
	c := chain(161803)
	for k := range 150 {
		l := c.row(2+k%9, 5, 1)
		i := int(c.within(0, int64(len(l)-1)))
		n := int(c.within(2, 4))
		p, s := c.spot(12, 2), way{c.spot(7, 2), c.spot(7, 2)}
		times, on := wind.Around(grid(l), p.point())
		around(t, back(l), p, -times, on)
		around(t, starts(l, i), p, times, on)
		around(t, again(l, n), p, n*times, on)
		around(t, doubled(l), p, times, on)
		v := grids()[k%len(grids())]
		around(t, v.row(l), v.of(p), v.around(times), on)
		for _, s := range []way{s, sidesOf(l)[i]} {
			if !promised(l, s) {
				continue
			}
			left, right := wind.Beside(points(l), s.seg())
			flanks(t, l, s, left, right)
			besides(t, starts(l, i), s, left, right)
			besides(t, again(l, n), s, n*left, n*right)
			besides(t, cut(l), s, left, right)
			v := views()[k%len(views())]
			a, b := v.beside(left, right)
			besides(t, v.row(l), v.way(s), a, b)
		}
	}
}

// doubled tells each point twice.
func doubled(l []spot) []spot {
	var out []spot
	for _, p := range l {
		out = append(out, p, p)
	}
	return out
}

// cut puts the middle of each side in.
func cut(l []spot) []spot {
	var out []spot
	for _, w := range sidesOf(l) {
		out = append(out, w.a, w.middle())
	}
	return out
}

// rooms are the places at which the slices within a value begin.
func rooms(v reflect.Value) []uintptr {
	var out []uintptr
	switch v.Kind() {
	case reflect.Struct:
		for i := range v.NumField() {
			out = append(out, rooms(v.Field(i))...)
		}
	case reflect.Slice:
		if v.Cap() > 0 {
			out = append(out, v.Pointer())
		}
		for i := range v.Len() {
			out = append(out, rooms(v.Index(i))...)
		}
	}
	return out
}

// The rule on memory: what Grid answers shares none with an argument, nor with another answer, nor two of its points any with each other.
func TestMemoryIsNotShared(t *testing.T) {
	l := []api.Pt{{}, {X: 5}, {X: 5, Y: 5}, {X: 5, Y: 5}, {X: lowest, Y: top}, {X: -1, Y: -1}}
	seen := map[uintptr]bool{reflect.ValueOf(l).Pointer(): true}
	for range 3 {
		for _, r := range rooms(reflect.ValueOf(wind.Grid(l))) {
			if seen[r] {
				t.Fatal("memory is shared")
			}
			seen[r] = true
		}
	}
}

// The rules on memory and values: rows aren't changed, nor the room behind their ends, nor points and segments; what is asked again is answered again.
func TestArgumentsStay(t *testing.T) {
	c := chain(987654321)
	for range 60 {
		spots := c.row(9, 4, 1)
		l, fine := grid(spots), points(spots)
		p, s := c.spot(4, 3), way{c.spot(4, 3), c.spot(4, 3)}
		point, seg := p.point(), s.seg()
		n, on := wind.Around(l[:6], point)
		left, right := wind.Beside(fine[:6], seg)
		first := wind.Grid(l[:6])
		if m, is := wind.Around(l[:6], point); m != n || is != on {
			t.Fatal("an answer changed")
		}
		if a, b := wind.Beside(fine[:6], seg); a != left || b != right {
			t.Fatal("an answer changed")
		}
		if !reflect.DeepEqual(first, points(spots[:6])) || !reflect.DeepEqual(wind.Grid(l[:6]), first) {
			t.Fatal("an answer changed")
		}
		first[0], first[1] = point, seg.A
		if !slices.Equal(l, grid(spots)) || !reflect.DeepEqual(fine, points(spots)) || !reflect.DeepEqual(point, p.point()) || !reflect.DeepEqual(seg, s.seg()) {
			t.Fatal("an argument changed")
		}
	}
}

// P1: every call ends, and none panics, at all arguments; of Beside where nothing is promised too.
func TestAllCallsEnd(t *testing.T) {
	defer func() {
		if x := recover(); x != nil {
			t.Fatal("panic:", x)
		}
	}()
	digits := strings.Repeat("7310942586", 50)
	long, _ := frac.Parse("-" + digits + "/9" + digits)
	whole, _ := zed.Parse(digits)
	longer := frac.Whole(whole.Mul(whole).Mul(whole))
	l := []plane.Pt{{}, {X: long}, {Y: long}, {X: long, Y: longer}, {X: longer.Neg(), Y: longer}, plane.Grid(api.Pt{X: lowest, Y: top}), plane.Grid(api.Pt{X: -1, Y: 1})}
	g := []api.Pt{{}, {X: lowest, Y: lowest}, {X: top, Y: lowest}, {X: top, Y: top}, {X: -1, Y: 1}, {X: 1, Y: -1}, {}, {X: lowest, Y: top}}
	for _, p := range l {
		for i := range g {
			wind.Around(g[:i], p)
			wind.Around(g[i:], p)
		}
		for _, q := range l {
			for i := range l {
				wind.Beside(l[:i], plane.Seg{A: p, B: q})
				wind.Beside(l[i:], plane.Seg{A: p, B: q})
			}
		}
	}
	crossed := wind.Grid([]api.Pt{{X: -2, Y: -1}, {X: 2, Y: 1}, {X: 1, Y: -3}, {}, {X: -1, Y: 3}})
	for _, p := range crossed {
		wind.Beside(crossed, plane.Seg{A: p, B: plane.Pt{X: p.X.Neg(), Y: p.Y.Neg()}}) // its middle, 0 0, is a corner
	}
	many := make([]api.Pt, 100000)
	for i := range many {
		many[i] = api.Pt{X: i % 317, Y: i * i % 1009}
	}
	wind.Around(many, plane.Grid(api.Pt{X: 999, Y: 500}))
	wind.Beside(wind.Grid(many), plane.Seg{A: plane.Grid(many[0]), B: plane.Grid(many[1])})
}
