package surd_test

import (
	"math/big"
	"reflect"
	"strings"
	"testing"

	"pellicle/api"
	"pellicle/frac"
	"pellicle/surd"
	"pellicle/zed"
)

// some are fields of each kind.
func some() []field {
	return []field{{0, 0}, {0, 5}, {1, 2}, {2, 0}, {2, 2}, {2, 3}, {2, 8}, {3, 4}, {9, 4}, {6, 10}}
}

func add(a, b surd.Surd) surd.Surd {
	sum, _ := a.Add(b)
	return sum
}

func mul(a, b surd.Surd) surd.Surd {
	product, _ := a.Mul(b)
	return product
}

// same asks for numbers of the same field and the same parts.
func same(t *testing.T, law string, a, b surd.Surd) {
	t.Helper()
	order, e := a.Cmp(b)
	if order != 0 || e != api.OK || text(a) != text(b) || !reflect.DeepEqual(a, b) {
		t.Fatal(law, text(a), text(b))
	}
}

// P4.4: the rules of a ring.
func TestRing(t *testing.T) {
	for _, f := range some() {
		zero, one := number(f.m, f.n, small()), number(f.m, f.n, small(1))
		l := few(f)
		for _, a := range l {
			same(t, "a + 0", add(a, zero), a)
			same(t, "a 1", mul(a, one), a)
			same(t, "a 0", mul(a, zero), zero)
			same(t, "a -1", mul(a, one.Neg()), a.Neg())
			same(t, "a + -a", add(a, a.Neg()), zero)
			same(t, "--a", a.Neg().Neg(), a)
			for _, b := range l {
				difference, _ := a.Sub(b)
				same(t, "a + b", add(a, b), add(b, a))
				same(t, "a b", mul(a, b), mul(b, a))
				same(t, "a - b", difference, add(a, b.Neg()))
				for _, c := range l {
					same(t, "a + b + c", add(add(a, b), c), add(a, add(b, c)))
					same(t, "a b c", mul(mul(a, b), c), mul(a, mul(b, c)))
					same(t, "a (b + c)", mul(a, add(b, c)), add(mul(a, b), mul(a, c)))
				}
			}
		}
	}
}

// P4.4: the rules of a ring's order.
func TestOrder(t *testing.T) {
	cmp := func(a, b surd.Surd) int {
		order, _ := a.Cmp(b)
		return order
	}
	for _, f := range some() {
		l := few(f)
		for _, a := range l {
			if a.Neg().Sign() != -a.Sign() || mul(a, a).Sign() != a.Sign()*a.Sign() {
				t.Fatal(text(a))
			}
			for _, b := range l {
				order := cmp(a, b)
				if cmp(b, a) != -order || cmp(b.Neg(), a.Neg()) != order || mul(a, b).Sign() != a.Sign()*b.Sign() {
					t.Fatal(text(a), text(b))
				}
				for _, c := range l {
					if cmp(add(a, c), add(b, c)) != order || cmp(mul(a, c), mul(b, c)) != order*c.Sign() {
						t.Fatal(text(a), text(b), text(c))
					}
					if order < 0 && cmp(b, c) < 0 && cmp(a, c) >= 0 {
						t.Fatal(text(a), text(b), text(c))
					}
				}
			}
		}
	}
}

// P4.4: √m times √m is m, √n times √n is n, √m times √n is √m √n.
func TestRootsOfFields(t *testing.T) {
	for _, f := range fields() {
		first, second, both := number(f.m, f.n, small(0, 1)), number(f.m, f.n, small(0, 0, 1)), number(f.m, f.n, small(0, 0, 0, 1))
		same(t, "√m √m", mul(first, first), number(f.m, f.n, small(f.m)))
		same(t, "√n √n", mul(second, second), number(f.m, f.n, small(f.n)))
		same(t, "√m √n", mul(first, second), both)
		same(t, "√m √n √m √n", mul(both, both), number(f.m, f.n, small(f.m*f.n)))
		if first.Sign() < 0 || second.Sign() < 0 || both.Sign() < 0 {
			t.Fatal("a root is below 0", f)
		}
	}
}

// P4.4: a number may be 0 though its parts aren't: it tells its parts, and counts as 0.
func TestHiddenNoughts(t *testing.T) {
	a := number(4, 0, four{ratio(1, 1), ratio(-1, 2), ratio(0, 1), ratio(0, 1)})
	is(t, "1 - √4 / 2", a, big.NewInt(4), new(big.Int), four{ratio(1, 1), ratio(-1, 2), ratio(0, 1), ratio(0, 1)})
	order, e := a.Cmp(number(4, 0, small()))
	if a.Sign() != 0 || order != 0 || e != api.OK || a.Floor().Sign() != 0 || a.Near().Sign() != 0 {
		t.Fatal(a.Sign(), order, e)
	}
	if order, e := number(2, 8, small(0, 2)).Cmp(number(2, 8, small(0, 0, 1))); order != 0 || e != api.OK {
		t.Fatal("2 √2 isn't √8:", order, e)
	}
}

// answers are those of all calls on two numbers of one field.
func answers(a, b surd.Surd) []any {
	sum, _ := a.Add(b)
	difference, _ := a.Sub(b)
	product, _ := a.Mul(b)
	m, n := a.Field()
	again, _ := b.Field()
	made, _ := surd.Of(m, n, a.Parts()[0], b.Parts()[1])
	return []any{a.Neg(), sum, difference, product, made, m, n, again, a.Parts(), b.Parts(), a.Floor(), a.Near(), b.Floor(), b.Near()}
}

// texts tells all answers.
func texts(l []any) string {
	var out []string
	for _, x := range l {
		switch x := x.(type) {
		case surd.Surd:
			out = append(out, text(x))
		case zed.Int:
			out = append(out, x.Text())
		case [4]frac.Rat:
			for _, part := range x {
				out = append(out, part.Text())
			}
		}
	}
	return strings.Join(out, " ")
}

// The rule on values: no call changes a number that was answered, or handed in, and each answers the same again.
func TestValuesStay(t *testing.T) {
	for _, f := range some() {
		l := few(f)
		var before []any
		for _, a := range l {
			before = append(before, a)
		}
		told := texts(before)
		for _, a := range l {
			for _, b := range l {
				list := answers(a, b)
				told := texts(list)
				for _, x := range list {
					if x, ok := x.(surd.Surd); ok {
						answers(x, b)
						answers(b, x)
						x.Sign()
					}
				}
				if texts(list) != told || texts(answers(a, b)) != told {
					t.Fatal("an answer changed:", text(a), text(b))
				}
			}
		}
		if texts(before) != told {
			t.Fatal("an argument changed")
		}
	}
}

// The rule on memory: a list that is handed in stays, the room behind its end too, and isn't kept.
func TestPartsAreNotKept(t *testing.T) {
	list := rationals(small(1, 2, 3, 4))
	a, _ := surd.Of(zed.Of(2), zed.Of(3), list[:2]...)
	for i, part := range list {
		if part.Cmp(frac.Whole(zed.Of(i+1))) != 0 {
			t.Fatal("a part changed:", i, part.Text())
		}
		list[i] = frac.Rat{}
	}
	is(t, "Of", a, big.NewInt(2), big.NewInt(3), small(1, 2))
	parts := a.Parts()
	parts[0] = frac.Whole(zed.Of(9))
	is(t, "Of", a, big.NewInt(2), big.NewInt(3), small(1, 2))
}

// rooms are the places at which the slices within a value begin.
func rooms(v reflect.Value) []uintptr {
	var out []uintptr
	switch v.Kind() {
	case reflect.Struct:
		for i := range v.NumField() {
			out = append(out, rooms(v.Field(i))...)
		}
	case reflect.Array:
		for i := range v.Len() {
			out = append(out, rooms(v.Index(i))...)
		}
	case reflect.Slice:
		if v.Len() > 0 {
			out = append(out, v.Pointer())
		}
	}
	return out
}

// alone looks whether what is held begins at places of its own.
func alone(t *testing.T, held ...any) {
	t.Helper()
	seen := map[uintptr]bool{}
	for _, x := range held {
		for _, r := range rooms(reflect.ValueOf(x)) {
			if seen[r] {
				t.Fatal("memory is shared:", texts(held))
			}
			seen[r] = true
		}
	}
}

// The rule on memory: an answer shares none with an argument, nor with another answer.
func TestMemoryIsNotShared(t *testing.T) {
	for _, f := range some() {
		l := few(f)
		zero := number(f.m, f.n, small())
		for i, a := range l {
			for j, b := range l {
				held := append([]any{a, zero}, answers(a, b)...)
				if i != j {
					held = append(held, b)
				}
				held = append(held, answers(zero, b)...)
				held = append(held, answers(a, zero)...)
				alone(t, held...)
			}
		}
		m, part := zed.Of(7), frac.Whole(zed.Of(5))
		first, _ := surd.Of(m, m, part, part, part, part)
		second, _ := surd.Of(m, m, part)
		alone(t, m, part, first, second)
	}
}

// P1: every call ends, and none panics, at all arguments.
func TestAllCallsEnd(t *testing.T) {
	defer func() {
		if x := recover(); x != nil {
			t.Fatal("panic:", x)
		}
	}()
	far, third := power(10, 4095), new(big.Rat).SetFrac(power(-3, 8001), power(7, 4000))
	long := four{third, new(big.Rat).Neg(third), ratio(1, 1), new(big.Rat).SetFrac(power(2, 13000), power(3, 8000))}
	l := []surd.Surd{{}, wide(far, power(3, 8000), long), wide(power(3, 8000), new(big.Int), long), number(0, 0, long), number(2, 3, long), number(2, 3, small(-1<<63, 1<<62, -1, 7))}
	for _, a := range l {
		a.Sign()
		for _, b := range l {
			answers(a, b)
			a.Cmp(b)
		}
	}
	parts := make([]frac.Rat, 1<<20)
	for _, m := range []zed.Int{{}, zed.Of(-1 << 63), integer(far), integer(far).Neg()} {
		for _, count := range []int{0, 1, 4, 5, len(parts)} {
			surd.Of(m, m, parts[:count]...)
		}
	}
}
