package frac_test

import (
	"math"
	"math/big"
	"reflect"
	"strings"
	"testing"

	"pellicle/api"
	"pellicle/frac"
	"pellicle/zed"
)

// P3.4: the rules of a field.
func TestField(t *testing.T) {
	same := func(law string, x, y frac.Rat) {
		t.Helper()
		if x.Cmp(y) != 0 || x.Text() != y.Text() {
			t.Fatalf("%s: %s, %s", law, x.Text(), y.Text())
		}
	}
	zero, one := frac.Rat{}, frac.Whole(zed.Of(1))
	l := numbers(few(4))
	for _, a := range l {
		same("a + 0", a.Add(zero), a)
		same("a 1", a.Mul(one), a)
		same("a 0", a.Mul(zero), zero)
		same("a -1", a.Mul(one.Neg()), a.Neg())
		same("a + -a", a.Add(a.Neg()), zero)
		same("a - a", a.Sub(a), zero)
		if inverse, e := one.Div(a); e == api.OK {
			same("a 1/a", a.Mul(inverse), one)
		} else if a.Sign() != 0 {
			t.Fatal("no inverse:", a.Text())
		}
		for _, b := range l {
			same("a + b", a.Add(b), b.Add(a))
			same("a b", a.Mul(b), b.Mul(a))
			same("a - b", a.Sub(b), a.Add(b.Neg()))
			same("a + b - b", a.Add(b).Sub(b), a)
			if q, e := a.Div(b); e == api.OK {
				same("a / b b", q.Mul(b), a)
			}
			for _, c := range l {
				same("a + b + c", a.Add(b).Add(c), a.Add(b.Add(c)))
				same("a b c", a.Mul(b).Mul(c), a.Mul(b.Mul(c)))
				same("a (b + c)", a.Mul(b.Add(c)), a.Mul(b).Add(a.Mul(c)))
			}
		}
	}
}

// P3.4: the rules of a field's order.
func TestOrder(t *testing.T) {
	l := numbers(few(4))
	for _, a := range l {
		for _, b := range l {
			order := a.Cmp(b)
			if a.Sub(b).Sign() != order || b.Cmp(a) != -order || b.Neg().Cmp(a.Neg()) != order {
				t.Fatal(a.Text(), b.Text())
			}
			if frac.Least(a, b).Cmp(frac.Most(a, b)) > 0 || frac.Least(a, b).Add(frac.Most(a, b)).Cmp(a.Add(b)) != 0 {
				t.Fatal(a.Text(), b.Text())
			}
			for _, c := range l {
				if a.Add(c).Cmp(b.Add(c)) != order || a.Mul(c).Cmp(b.Mul(c)) != order*c.Sign() {
					t.Fatal(a.Text(), b.Text(), c.Text())
				}
				if order < 0 && b.Cmp(c) < 0 && a.Cmp(c) >= 0 {
					t.Fatal(a.Text(), b.Text(), c.Text())
				}
			}
		}
	}
}

// P3.4: what is written is read as it was.
func TestTextIsRead(t *testing.T) {
	longest, _ := frac.Parse("-" + strings.Repeat("9", api.MaxDigits) + "/1" + strings.Repeat("0", api.MaxDigits-1))
	for _, a := range append(numbers(samples()), longest) {
		b, e := frac.Parse(a.Text())
		if e != api.OK || b.Cmp(a) != 0 || b.Text() != a.Text() || !reflect.DeepEqual(a, b) {
			t.Fatal(short(a.Text()), short(b.Text()), e)
		}
		c, e := frac.Make(a.Num(), a.Den())
		if e != api.OK || c.Cmp(a) != 0 {
			t.Fatal(short(a.Text()), short(c.Text()), e)
		}
	}
}

// answers are those of all calls on two numbers.
func answers(a, b frac.Rat) ([]frac.Rat, []zed.Int) {
	quotient, _ := a.Div(b)
	made, _ := frac.Make(a.Num(), b.Num())
	again, _ := frac.Parse(b.Text())
	rats := []frac.Rat{a.Neg(), a.Add(b), a.Sub(b), a.Mul(b), quotient, made, again, frac.Whole(a.Num()), frac.Least(a), frac.Most(a), frac.Least(a, b), frac.Most(a, b)}
	return rats, []zed.Int{a.Num(), a.Den(), a.Num(), a.Den(), a.Floor(), a.Near(), a.Floor(), a.Near()}
}

func texts(l []frac.Rat, ints []zed.Int) string {
	var out []string
	for _, a := range l {
		out = append(out, a.Text())
	}
	for _, n := range ints {
		out = append(out, n.Text())
	}
	return strings.Join(out, " ")
}

// The rule on values: no call changes a number that was answered, or handed in, and each answers the same again.
func TestValuesStay(t *testing.T) {
	l := numbers(few(3))
	before := texts(l, nil)
	for _, a := range l {
		for _, b := range l {
			list, ints := answers(a, b)
			told := texts(list, ints)
			for _, x := range list {
				answers(x, of(-1, 6))
				answers(b, x)
			}
			if texts(list, ints) != told || texts(answers(a, b)) != told {
				t.Fatal("an answer changed:", a.Text(), b.Text())
			}
		}
	}
	if texts(l, nil) != before {
		t.Fatal("an argument changed")
	}
}

// rooms are the places at which the slices within a value begin.
func rooms(v reflect.Value) []uintptr {
	var out []uintptr
	switch v.Kind() {
	case reflect.Struct:
		for i := range v.NumField() {
			out = append(out, rooms(v.Field(i))...)
		}
	case reflect.Slice:
		if v.Len() > 0 {
			out = append(out, v.Pointer())
		}
	}
	return out
}

// alone looks whether what is held begins at places of its own.
func alone(t *testing.T, what string, held ...any) {
	t.Helper()
	seen := map[uintptr]bool{}
	for _, x := range held {
		for _, r := range rooms(reflect.ValueOf(x)) {
			if seen[r] {
				t.Fatal("memory is shared:", what, x)
			}
			seen[r] = true
		}
	}
}

// The rule on memory: an answer shares none with an argument, nor with another answer.
func TestMemoryIsNotShared(t *testing.T) {
	l := numbers(few(3))
	for _, a := range l {
		for _, b := range l {
			held := []any{a}
			if !reflect.DeepEqual(a, b) {
				held = append(held, b)
			}
			for _, pair := range [][2]frac.Rat{{a, b}, {a, {}}, {{}, b}, {a, of(1, 1)}} {
				list, ints := answers(pair[0], pair[1])
				for _, x := range list {
					held = append(held, x)
				}
				for _, n := range ints {
					held = append(held, n)
				}
			}
			alone(t, a.Text()+" "+b.Text(), held...)
			n, d := a.Num(), b.Den()
			first, _ := frac.Make(n, d)
			second, _ := frac.Make(n, d)
			third, _ := frac.Make(d, d)
			alone(t, "Make", n, d, first, second, third, frac.Whole(n), frac.Whole(n))
		}
	}
}

// P1: every call ends, and none panics, at all arguments.
func TestAllCallsEnd(t *testing.T) {
	defer func() {
		if x := recover(); x != nil {
			t.Fatal("panic:", x)
		}
	}()
	far := power(2, 20000)
	l := numbers(append(few(20), whole(far), quotient(big.NewInt(-1), far), quotient(power(-3, 10001), far)))
	l = append(l, frac.Rat{}, of(math.MinInt, math.MaxInt), of(math.MaxInt, math.MinInt))
	for _, a := range l {
		for _, b := range l {
			a.Cmp(b)
			if list, ints := answers(a, b); texts(list, ints) == "" {
				t.Fatal("no text")
			}
		}
	}
	for _, s := range []string{"", "/", "-/-", "\x00/\x00", "\xff\xfe/\xff", strings.Repeat("1/", 4097), strings.Repeat("-", 4097) + "/1", strings.Repeat("9", 1<<20) + "/" + strings.Repeat("9", 1<<20), strings.Repeat("/", 1<<20)} {
		frac.Parse(s)
	}
}
