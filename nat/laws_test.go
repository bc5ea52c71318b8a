package nat_test

import (
	"math/big"
	"strings"
	"testing"

	"pellicle/api"
	"pellicle/nat"
)

func numbers(l []*big.Int) []nat.Nat {
	var out []nat.Nat
	for _, b := range l {
		out = append(out, number(b))
	}
	return out
}

// P1.6: sums and products hang on no order of their parts, and are spread over one another.
func TestSumsAndProducts(t *testing.T) {
	same := func(law string, x, y nat.Nat) {
		if x.Cmp(y) != 0 {
			t.Fatalf("%s: %s, %s", law, x.Text(), y.Text())
		}
	}
	l := numbers(few(4))
	for _, a := range l {
		same("a + 0", a.Add(nat.Nat{}), a)
		same("a 1", a.Mul(nat.Of(1)), a)
		same("a 0", a.Mul(nat.Nat{}), nat.Nat{})
		for _, b := range l {
			same("a + b", a.Add(b), b.Add(a))
			same("a b", a.Mul(b), b.Mul(a))
			for _, c := range l {
				same("a + b + c", a.Add(b).Add(c), a.Add(b.Add(c)))
				same("a b c", a.Mul(b).Mul(c), a.Mul(b.Mul(c)))
				same("a (b + c)", a.Mul(b.Add(c)), a.Mul(b).Add(a.Mul(c)))
			}
		}
	}
}

// P1.6: a number is its quotient times the divisor, and the rest, which is less.
func TestQuotientsMakeNumbers(t *testing.T) {
	l := numbers(samples())
	for _, a := range l {
		for _, b := range l {
			q, r, e := a.Div(b)
			if b.Bits() == 0 {
				continue
			}
			if e != api.OK || r.Cmp(b) >= 0 || q.Mul(b).Add(r).Cmp(a) != 0 {
				t.Fatal(a.Text(), b.Text(), q.Text(), r.Text(), e)
			}
		}
	}
}

// P1.6: a root and its rest make the number again; the next root is too great.
func TestRootsMakeNumbers(t *testing.T) {
	for _, a := range numbers(samples()) {
		root, rest := a.Root()
		next := root.Add(nat.Of(1))
		if root.Mul(root).Add(rest).Cmp(a) != 0 || next.Mul(next).Cmp(a) <= 0 {
			t.Fatal(a.Text(), root.Text(), rest.Text())
		}
	}
}

// answers are those of all calls on two numbers.
func answers(a, b nat.Nat) []nat.Nat {
	difference, _ := a.Sub(b)
	quotient, rest, _ := a.Div(b)
	up, _ := a.Up(67)
	still, _ := a.Up(0)
	down, _ := a.Down(3)
	stay, _ := a.Down(0)
	root, left := a.Root()
	again, _ := nat.Parse(b.Text())
	return []nat.Nat{a.Add(b), difference, a.Mul(b), quotient, rest, up, still, down, stay, root, left, a.Gcd(b), again}
}

func texts(l []nat.Nat) string {
	var out []string
	for _, a := range l {
		out = append(out, a.Text())
	}
	return strings.Join(out, " ")
}

// The rule on values: no call changes a number that was answered, or handed in, and each answers the same again.
func TestValuesStay(t *testing.T) {
	l := numbers(few(3))
	before := texts(l)
	one := nat.Of(1)
	for _, a := range l {
		for _, b := range l {
			first := answers(a, b)
			told := texts(first)
			for _, x := range first { // an answer that shared room with another would be written over here
				answers(x, one)
				answers(x, b)
				answers(b, x)
			}
			if texts(first) != told || texts(answers(a, b)) != told {
				t.Fatal("an answer changed:", a.Text(), b.Text())
			}
		}
	}
	if texts(l) != before {
		t.Fatal("an argument changed")
	}
}

// P1: every call ends, and none panics, at all arguments.
func TestAllCallsEnd(t *testing.T) {
	defer func() {
		if x := recover(); x != nil {
			t.Fatal("panic:", x)
		}
	}()
	l := numbers(append(samples(), power(2, 65536), power(3, 12000)))
	for _, a := range l {
		for _, k := range []int{-1 << 63, -1, 0, 1, 64, 65535, 65536, 65537, 1<<63 - 1} {
			a.Up(k)
			a.Down(k)
		}
		a.Word()
		a.Bits()
		for _, b := range l {
			answers(a, b)
			a.Cmp(b)
		}
	}
	for _, s := range []string{"", "\x00", "\xff\xfe", "é", strings.Repeat("\xff", 4096), strings.Repeat("0", 1<<20), strings.Repeat("9", 4096)} {
		nat.Parse(s)
	}
}
