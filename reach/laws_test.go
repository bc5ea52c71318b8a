package reach_test

import (
	"reflect"
	"strings"
	"testing"

	"pellicle/api"
	"pellicle/frac"
	"pellicle/plane"
	"pellicle/reach"
	"pellicle/zed"
)

// P12.4: Least, Most and Closer hang on no order of the two and of a segment's ends; they stay when all is moved, turned by quarters or mirrored; with all n times as great they are n n times as great.
func TestSeenOtherwise(t *testing.T) {
	for i, x := range fours() {
		s, u := x[0].seg(), x[1].seg()
		least, most := reach.Least(s, u), reach.Most(s, u)
		for k, v := range views() {
			if (i+k)%4 != 0 { // each view of some, each pair of some
				continue
			}
			grown := rational(v.grown(ratio(1, 1)))
			ordered(v.way(x[0]), v.way(x[1]), func(w, o way) {
				if got := reach.Least(w.seg(), o.seg()); got.Cmp(least.Mul(grown)) != 0 {
					t.Fatal("Least:", w.text(), o.text(), got.Text(), least.Text())
				}
				if got := reach.Most(w.seg(), o.seg()); got.Cmp(most.Mul(grown)) != 0 {
					t.Fatal("Most:", w.text(), o.text(), got.Text(), most.Text())
				}
			})
			for d := int64(1); v.n > 0 && d < 4; d++ {
				closes(t, v.way(x[0]), v.way(x[1]), int(d*v.n), reach.Closer(s, u, int(d)))
			}
		}
	}
}

// answers are those of all calls that answer numbers, on two segments.
func answers(s, u plane.Seg) []frac.Rat {
	one := plane.Seg{A: s.A, B: s.A}
	nought := plane.Seg{}
	return []frac.Rat{
		reach.Square(s.A, s.B), reach.Square(s.A, s.A), reach.Square(plane.Pt{}, s.A), reach.Square(u.B, plane.Pt{}),
		reach.To(s, u.A), reach.To(u, s.B), reach.To(s, s.A), reach.To(one, u.A), reach.To(one, s.A), reach.To(nought, s.A), reach.To(s, plane.Pt{}),
		reach.Least(s, u), reach.Least(u, s), reach.Least(s, s), reach.Least(one, u), reach.Least(one, one), reach.Least(nought, u),
		reach.Most(s, u), reach.Most(u, s), reach.Most(s, s), reach.Most(one, u), reach.Most(one, one), reach.Most(u, nought),
	}
}

// texts are all that numbers say.
func texts(l []frac.Rat) string {
	var out []string
	for _, a := range l {
		out = append(out, a.Text())
	}
	return strings.Join(out, ", ")
}

// rooms are the places at which the slices within a value begin.
func rooms(v reflect.Value) []uintptr {
	var out []uintptr
	switch v.Kind() {
	case reflect.Struct:
		for i := range v.NumField() {
			out = append(out, rooms(v.Field(i))...)
		}
	case reflect.Slice:
		if v.Cap() > 0 {
			out = append(out, v.Pointer())
		}
		for i := range v.Len() {
			out = append(out, rooms(v.Index(i))...)
		}
	}
	return out
}

// The rule on memory: an answer shares none with an argument, nor with another answer.
func TestMemoryIsNotShared(t *testing.T) {
	for _, x := range fours() {
		s, u := x[0].seg(), x[1].seg()
		seen := map[uintptr]bool{}
		for _, r := range rooms(reflect.ValueOf([]plane.Seg{s, u})) {
			seen[r] = true
		}
		for i, answer := range answers(s, u) {
			for _, r := range rooms(reflect.ValueOf(answer)) {
				if seen[r] {
					t.Fatal("memory is shared:", x[0].text(), x[1].text(), i)
				}
				seen[r] = true
			}
		}
	}
}

// P12.4 and the rule on values: arguments aren't changed, nor answers; what is asked again is answered again.
func TestValuesStay(t *testing.T) {
	for _, x := range fours() {
		s, u := x[0].seg(), x[1].seg()
		l := answers(s, u)
		first, closer := texts(l), reach.Closer(s, u, 2)
		if texts(answers(s, u)) != first || reach.Closer(s, u, 2) != closer || texts(l) != first {
			t.Fatal("an answer changed:", x[0].text(), x[1].text())
		}
		for i, w := range []way{x[0], x[1]} {
			got := []plane.Seg{s, u}[i]
			if got.A.Text() != w.a.text() || got.B.Text() != w.b.text() || !reflect.DeepEqual(got, w.seg()) {
				t.Fatal("an argument changed:", x[0].text(), x[1].text())
			}
		}
	}
}

// P1: every call ends, and none panics, at all arguments.
func TestAllCallsEnd(t *testing.T) {
	defer func() {
		if x := recover(); x != nil {
			t.Fatal("panic:", x)
		}
	}()
	digits := strings.Repeat("7310942586", 50)
	long, _ := frac.Parse("-" + digits + "/9" + digits)
	whole, _ := zed.Parse(digits)
	longer := frac.Whole(whole.Mul(whole).Mul(whole))
	l := []plane.Pt{{}, {X: long}, {Y: long}, {X: long, Y: longer}, {X: longer.Neg(), Y: longer}, plane.Grid(api.Pt{X: lowest, Y: top}), plane.Grid(api.Pt{X: -1, Y: 1})}
	asked := func(a, b, c, d plane.Pt) {
		s, u := plane.Seg{A: a, B: b}, plane.Seg{A: c, B: d}
		answers(s, u)
		for _, far := range []int{lowest, -1, 0, 1, 1 << 32, top} {
			reach.Closer(s, u, far)
		}
	}
	for _, a := range l {
		for _, b := range l {
			asked(a, b, l[3], l[4])
			asked(l[1], a, b, l[5])
			asked(a, a, b, b)
			asked(a, b, a, b)
			asked(a, b, b, a)
		}
	}
}
