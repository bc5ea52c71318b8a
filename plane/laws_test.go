package plane_test

import (
	"reflect"
	"slices"
	"strings"
	"testing"

	"pellicle/api"
	"pellicle/frac"
	"pellicle/plane"
	"pellicle/zed"
)

// threes are triples of points that are one, two, on one line, or none of it.
func threes() [][3]spot {
	c := chain(314159)
	var l [][3]spot
	for i := range 60 {
		p, q, r := c.spot(9, int64(1+i%4)), c.spot(9, 3), c.spot(1<<40, 1<<20)
		on := way{p, q}.along(ratio(c.within(-3, 5), 2))
		l = append(l, [3]spot{p, q, r}, [3]spot{p, q, on}, [3]spot{p, p, q}, [3]spot{r, r, r})
	}
	s := few(spots(), 23)
	for i := range len(s) - 2 {
		l = append(l, [3]spot{s[i], s[i+1], s[i+2]})
	}
	return l
}

// P11.5: Cross turns its sign with two of its points, and stays when they are turned about; it is twice the area of the three.
func TestCrossTurns(t *testing.T) {
	for _, x := range threes() {
		a, b, c := x[0].point(), x[1].point(), x[2].point()
		want := plane.Cross(a, b, c)
		for _, got := range []frac.Rat{plane.Cross(b, c, a), plane.Cross(c, a, b), plane.Cross(b, a, c).Neg(), plane.Cross(a, c, b).Neg(), plane.Cross(c, b, a).Neg()} {
			if got.Cmp(want) != 0 {
				t.Fatal(a.Text(), b.Text(), c.Text(), got.Text(), want.Text())
			}
		}
		if side := plane.Side(a, b, c); plane.Side(b, c, a) != side || plane.Side(c, b, a) != -side || side != want.Sign() {
			t.Fatal(a.Text(), b.Text(), c.Text())
		}
		area := plane.Area([]plane.Pt{a, b, c})
		if area.Add(area).Cmp(want) != 0 {
			t.Fatal(a.Text(), b.Text(), c.Text(), area.Text(), want.Text())
		}
		if plane.Dot(a, b, c).Cmp(plane.Dot(a, c, b)) != 0 {
			t.Fatal("Dot", a.Text(), b.Text(), c.Text())
		}
	}
}

// fours are pairs of segments, of one point, on one line, touching, crossing, apart.
func fours() [][2]way {
	c := chain(271828)
	var l [][2]way
	for i := range 80 {
		d := int64(1 + i%3)
		s, u := c.way(6, d), c.way(6, d)
		on := way{s.along(ratio(c.within(-2, 4), 2)), s.along(ratio(c.within(-2, 4), 2))}
		l = append(l, [2]way{s, u}, [2]way{s, on}, [2]way{on, s}, [2]way{s, {on.a, u.b}}, [2]way{{u.a, u.a}, s}, [2]way{s, s.back()})
	}
	far := c.way(1<<60, 1<<40)
	return append(l, [2]way{far, c.way(1<<60, 1<<40)}, [2]way{far, {far.along(ratio(1, 3)), far.along(ratio(4, 3))}})
}

// P11.5: two segments meet as they do in the other order, and what they have in common is of both.
func TestMeetsInBothOrders(t *testing.T) {
	for _, x := range fours() {
		s, u := x[0].seg(), x[1].seg()
		l := plane.Meet(s, u)
		if texts(l) != texts(plane.Meet(u, s)) {
			t.Fatal(x[0].text(), x[1].text(), texts(l), texts(plane.Meet(u, s)))
		}
		for _, p := range l {
			if !plane.On(s, p) || !plane.On(u, p) {
				t.Fatal(x[0].text(), x[1].text(), p.Text())
			}
		}
		if len(l) == 2 && l[0].Cmp(l[1]) >= 0 {
			t.Fatal(texts(l))
		}
		for _, p := range []plane.Pt{u.A, u.B} { // an end that is of both is told, or lies between
			if plane.On(s, p) && !(len(l) > 0 && plane.On(plane.Seg{A: l[0], B: l[len(l)-1]}, p)) {
				t.Fatal(x[0].text(), x[1].text(), p.Text(), texts(l))
			}
		}
	}
}

// P11.5: what is cut off on one side and on the other is all: both parts begin and end where the segment does, and have in common what lies on the line.
func TestBothSidesAreAll(t *testing.T) {
	for _, x := range fours() {
		s, by := x[0].seg(), x[1].seg()
		left, right := plane.Clip(s, by), plane.Clip(s, plane.Seg{A: by.B, B: by.A})
		ends := texts([]plane.Pt{s.A, s.B})
		if s.A.Cmp(s.B) == 0 {
			ends = s.A.Text()
		}
		u, v := plane.Side(by.A, by.B, s.A), plane.Side(by.A, by.B, s.B)
		switch {
		case u >= 0 && v >= 0:
			if texts(left) != ends {
				t.Fatal("left of it:", x[0].text(), x[1].text(), texts(left))
			}
		case u <= 0 && v <= 0:
			if texts(right) != ends {
				t.Fatal("right of it:", x[0].text(), x[1].text(), texts(right))
			}
		case u > 0:
			if texts(slices.Concat(left, right[1:])) != texts([]plane.Pt{s.A, right[0], s.B}) {
				t.Fatal("from left to right:", x[0].text(), x[1].text(), texts(left), texts(right))
			}
		default:
			if texts(slices.Concat(right, left[1:])) != texts([]plane.Pt{s.A, left[0], s.B}) {
				t.Fatal("from right to left:", x[0].text(), x[1].text(), texts(left), texts(right))
			}
		}
		for _, p := range left {
			if !plane.On(s, p) || plane.Side(by.A, by.B, p) < 0 {
				t.Fatal(x[0].text(), x[1].text(), p.Text())
			}
		}
	}
}

// P11.5: a row told backwards has the area of the other sign; cut in two by a way between two of its points it has both parts' areas.
func TestAreaTurns(t *testing.T) {
	c := chain(161803)
	for i := range 100 {
		l := points(c.row(3+i%9, 40, int64(1+i%6)))
		want := plane.Area(l)
		back := slices.Clone(l)
		slices.Reverse(back)
		if plane.Area(back).Cmp(want.Neg()) != 0 {
			t.Fatal(texts(l))
		}
		k := int(c.within(0, int64(len(l)-1)))
		if plane.Area(l[:k+1]).Add(plane.Area(append(slices.Clone(l[k:]), l[0]))).Cmp(want) != 0 {
			t.Fatal(texts(l), k)
		}
	}
}

// rooms are the places at which the slices within a value begin.
func rooms(v reflect.Value) []uintptr {
	var out []uintptr
	switch v.Kind() {
	case reflect.Struct:
		for i := range v.NumField() {
			out = append(out, rooms(v.Field(i))...)
		}
	case reflect.Slice:
		if v.Cap() > 0 {
			out = append(out, v.Pointer())
		}
		for i := range v.Len() {
			out = append(out, rooms(v.Index(i))...)
		}
	}
	return out
}

// answers are those of all calls that answer points or numbers, on two segments.
func answers(s, u plane.Seg) []any {
	l := []plane.Pt{s.A, s.B, u.A, u.B}
	return []any{
		plane.Cross(s.A, s.B, u.A), plane.Cross(plane.Pt{}, s.A, u.A), plane.Dot(s.A, s.B, u.A), plane.Dot(plane.Pt{}, s.A, plane.Grid(api.Pt{X: 1})),
		plane.Meet(s, u), plane.Meet(s, s), plane.Meet(plane.Seg{A: s.A, B: s.A}, s), plane.Meet(u, u),
		plane.Clip(s, u), plane.Clip(s, s), plane.Clip(u, plane.Seg{A: s.A, B: s.A}), plane.Clip(plane.Seg{A: u.B, B: u.B}, u),
		plane.Area(l), plane.Area(l[:1]), plane.Area(l[:0]), plane.Grid(api.Pt{X: 5, Y: -7}), plane.Grid(api.Pt{X: 5, Y: -7}),
	}
}

// The rule on memory: an answer shares none with an argument, nor with another answer, nor two points of one answer.
func TestMemoryIsNotShared(t *testing.T) {
	for _, x := range fours() {
		s, u := x[0].seg(), x[1].seg()
		seen := map[uintptr]bool{}
		for _, r := range rooms(reflect.ValueOf([]plane.Seg{s, u})) {
			seen[r] = true
		}
		for i, answer := range answers(s, u) {
			for _, r := range rooms(reflect.ValueOf(answer)) {
				if seen[r] {
					t.Fatal("memory is shared:", x[0].text(), x[1].text(), i)
				}
				seen[r] = true
			}
		}
	}
}

// told is all that the answers say.
func told(l []any) string {
	var out []string
	for _, x := range l {
		switch v := x.(type) {
		case frac.Rat:
			out = append(out, v.Text())
		case plane.Pt:
			out = append(out, v.Text())
		case []plane.Pt:
			out = append(out, texts(v))
		}
	}
	return strings.Join(out, "; ")
}

// P11.5: arguments aren't changed, nor answers; what is asked again is answered again; to write over a list that was answered changes nothing else.
func TestValuesStay(t *testing.T) {
	for _, x := range fours() {
		s, u := x[0].seg(), x[1].seg()
		l := answers(s, u)
		first := told(l)
		again := answers(s, u)
		for _, x := range again {
			if list, ok := x.([]plane.Pt); ok {
				list = list[:cap(list)]
				for i := range list {
					list[i] = plane.Grid(api.Pt{X: 99, Y: i})
				}
			}
		}
		if told(l) != first || told(answers(s, u)) != first {
			t.Fatal("an answer changed:", x[0].text(), x[1].text())
		}
		if texts([]plane.Pt{s.A, s.B, u.A, u.B}) != spotTexts([]spot{x[0].a, x[0].b, x[1].a, x[1].b}) {
			t.Fatal("an argument changed:", x[0].text(), x[1].text())
		}
	}
}

// P11.5: the row that Area is handed isn't changed, nor the room behind its end, nor does the area hang on what stands there.
func TestRowStays(t *testing.T) {
	c := chain(5551212)
	for i := range 20 {
		l := c.row(i+4, 30, 5)
		room := points(l)
		n := len(l) / 2
		if got, want := plane.Area(room[:n]), plane.Area(points(l[:n])); got.Cmp(want) != 0 {
			t.Fatal(got.Text(), want.Text())
		}
		if texts(room) != spotTexts(l) {
			t.Fatal(texts(room), spotTexts(l))
		}
	}
}

// asked goes through all calls.
func asked(a, b, c, d plane.Pt) {
	s, u := plane.Seg{A: a, B: b}, plane.Seg{A: c, B: d}
	a.Text()
	a.Cmp(b)
	plane.Side(a, b, c)
	plane.On(s, c)
	answers(s, u)
}

// P1: every call ends, and none panics, at all arguments.
func TestAllCallsEnd(t *testing.T) {
	defer func() {
		if x := recover(); x != nil {
			t.Fatal("panic:", x)
		}
	}()
	digits := strings.Repeat("7310942586", 120)
	long, _ := frac.Parse("-" + digits + "/9" + digits)
	whole, _ := zed.Parse(digits)
	longer := frac.Whole(whole.Mul(whole).Mul(whole))
	l := []plane.Pt{{}, {X: long}, {Y: long}, {X: long, Y: longer}, {X: longer.Neg(), Y: longer}, plane.Grid(api.Pt{X: least, Y: most}), plane.Grid(api.Pt{X: -1, Y: 1})}
	for _, a := range l {
		for _, b := range l {
			asked(a, b, l[3], l[4])
			asked(l[1], a, b, l[5])
			asked(a, a, b, b)
			asked(a, b, a, b)
			asked(a, b, b, a)
		}
	}
	plane.Area(nil)
	plane.Area([]plane.Pt{})
	plane.Area(make([]plane.Pt, 100000))
	row := make([]plane.Pt, 20000)
	for i := range row {
		row[i] = plane.Grid(api.Pt{X: i * i, Y: most - i})
	}
	plane.Area(row)
}
