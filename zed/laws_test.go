package zed_test

import (
	"math"
	"math/big"
	"reflect"
	"strings"
	"testing"

	"pellicle/api"
	"pellicle/nat"
	"pellicle/zed"
)

// P2.5: the rules of a ring.
func TestRing(t *testing.T) {
	same := func(law string, x, y zed.Int) {
		if x.Cmp(y) != 0 {
			t.Fatalf("%s: %s, %s", law, x.Text(), y.Text())
		}
	}
	l := numbers(few(3))
	for _, a := range l {
		same("a + 0", a.Add(zed.Int{}), a)
		same("a 1", a.Mul(zed.Of(1)), a)
		same("a 0", a.Mul(zed.Int{}), zed.Int{})
		same("a -1", a.Mul(zed.Of(-1)), a.Neg())
		same("a + -a", a.Add(a.Neg()), zed.Int{})
		same("a - a", a.Sub(a), zed.Int{})
		for _, b := range l {
			same("a + b", a.Add(b), b.Add(a))
			same("a b", a.Mul(b), b.Mul(a))
			same("a - b", a.Sub(b), a.Add(b.Neg()))
			same("-(a b)", a.Mul(b).Neg(), a.Neg().Mul(b))
			same("a + b - b", a.Add(b).Sub(b), a)
			for _, c := range l {
				same("a + b + c", a.Add(b).Add(c), a.Add(b.Add(c)))
				same("a b c", a.Mul(b).Mul(c), a.Mul(b.Mul(c)))
				same("a (b + c)", a.Mul(b.Add(c)), a.Mul(b).Add(a.Mul(c)))
				same("Sum", zed.Sum(a, b, c), zed.Sum(c, a, b))
			}
		}
	}
}

// P2.5: the order goes with sums, and with products by what is above 0.
func TestOrder(t *testing.T) {
	l := numbers(few(3))
	for _, a := range l {
		for _, b := range l {
			order := a.Cmp(b)
			if a.Sub(b).Sign() != order || b.Cmp(a) != -order || b.Neg().Cmp(a.Neg()) != order {
				t.Fatal(a.Text(), b.Text())
			}
			for _, c := range l {
				if a.Add(c).Cmp(b.Add(c)) != order || a.Mul(c).Cmp(b.Mul(c)) != order*c.Sign() {
					t.Fatal(a.Text(), b.Text(), c.Text())
				}
				if order < 0 && b.Cmp(c) < 0 && a.Cmp(c) >= 0 {
					t.Fatal(a.Text(), b.Text(), c.Text())
				}
			}
		}
	}
}

// P2.3 and P2.5: a number is its quotient times the divisor, and the rest.
func TestQuotientsMakeNumbers(t *testing.T) {
	l := numbers(samples())
	for _, a := range l {
		for _, b := range l {
			q, r, e := a.Floor(b)
			if b.Sign() == 0 {
				continue
			}
			if e != api.OK || r.Sign() < 0 || r.Abs().Cmp(b.Abs()) >= 0 || q.Mul(b).Add(r).Cmp(a) != 0 {
				t.Fatal(a.Text(), b.Text(), q.Text(), r.Text(), e)
			}
		}
	}
}

// answers are those of all calls on two numbers.
func answers(a, b zed.Int) []zed.Int {
	quotient, rest, _ := a.Floor(b)
	g, x, y := zed.Bezout(a, b)
	again, _ := zed.Parse(b.Text())
	return []zed.Int{a.Neg(), a.Add(b), a.Sub(b), a.Mul(b), quotient, rest, g, x, y, again, zed.Big(a.Abs()), zed.Sum(a), zed.Sum(b, a)}
}

func texts(l []zed.Int) string {
	var out []string
	for _, a := range l {
		out = append(out, a.Text())
	}
	return strings.Join(out, " ")
}

// The rule on values: no call changes a number that was answered, or handed in, and each answers the same again.
func TestValuesStay(t *testing.T) {
	l := numbers(few(3))
	before := texts(l)
	for _, a := range l {
		for _, b := range l {
			list := answers(a, b)
			told := texts(list)
			for _, x := range list {
				answers(x, zed.Of(-1))
				answers(b, x)
			}
			if texts(list) != told || texts(answers(a, b)) != told {
				t.Fatal("an answer changed:", a.Text(), b.Text())
			}
		}
	}
	if texts(l) != before {
		t.Fatal("an argument changed")
	}
}

// rooms are the places at which the slices within a value begin.
func rooms(v reflect.Value) []uintptr {
	var out []uintptr
	switch v.Kind() {
	case reflect.Struct:
		for i := range v.NumField() {
			out = append(out, rooms(v.Field(i))...)
		}
	case reflect.Slice:
		if v.Len() > 0 {
			out = append(out, v.Pointer())
		}
	}
	return out
}

// The rule on memory: an answer shares none with an argument, nor with another answer.
func TestMemoryIsNotShared(t *testing.T) {
	l := numbers(few(3))
	for _, a := range l {
		for _, b := range l {
			seen := map[uintptr]bool{}
			for _, r := range append(rooms(reflect.ValueOf(a)), rooms(reflect.ValueOf(b))...) {
				seen[r] = true
			}
			list := append(answers(a, b), answers(a, zed.Int{})...)
			list = append(list, answers(zed.Int{}, b)...)
			far := []nat.Nat{a.Abs(), b.Abs(), a.Abs()}
			held := []any{far[0], far[1], far[2], zed.Big(far[0]), zed.Big(far[0])}
			for _, x := range list {
				held = append(held, x)
			}
			for _, x := range held {
				for _, r := range rooms(reflect.ValueOf(x)) {
					if seen[r] {
						t.Fatal("memory is shared:", a.Text(), b.Text(), x)
					}
					seen[r] = true
				}
			}
		}
	}
}

// P1: every call ends, and none panics, at all arguments.
func TestAllCallsEnd(t *testing.T) {
	defer func() {
		if x := recover(); x != nil {
			t.Fatal("panic:", x)
		}
	}()
	far := power(2, 20000)
	l := numbers(append(few(4), far, new(big.Int).Neg(far), power(-3, 10001)))
	l = append(l, zed.Int{}, zed.Of(math.MinInt), zed.Of(math.MaxInt))
	for _, a := range l {
		a.Text()
		a.Small()
		a.Sign()
		for _, b := range l {
			answers(a, b)
			a.Cmp(b)
		}
	}
	for _, s := range []string{"", "-", "\x00", "-\xff\xfe", "é", strings.Repeat("-", 4097), strings.Repeat("\xff", 4097), "-" + strings.Repeat("0", 1<<20), "-" + strings.Repeat("9", 4096)} {
		zed.Parse(s)
	}
}
