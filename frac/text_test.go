package frac_test

import (
	"math"
	"math/big"
	"reflect"
	"strings"
	"testing"

	"pellicle/api"
	"pellicle/frac"
	"pellicle/zed"
)

// P3.1: the zero value is 0, over 1, and is told and reckoned with as such.
func TestZeroValue(t *testing.T) {
	for _, nought := range noughts() {
		is(t, "0", nought, new(big.Rat))
		if nought.Text() != "0" || nought.Num().Text() != "0" || nought.Den().Text() != "1" || nought.Sign() != 0 {
			t.Fatal(nought.Text(), nought.Num().Text(), nought.Den().Text(), nought.Sign())
		}
		if nought.Floor().Sign() != 0 || nought.Near().Sign() != 0 {
			t.Fatal("rounded:", nought.Floor().Text(), nought.Near().Text())
		}
		is(t, "0 + 2/3", nought.Add(of(2, 3)), ratio(2, 3))
		is(t, "2/3 + 0", of(2, 3).Add(nought), ratio(2, 3))
		is(t, "0 - 2/3", nought.Sub(of(2, 3)), ratio(-2, 3))
		is(t, "0 times 2/3", nought.Mul(of(2, 3)), new(big.Rat))
		for _, other := range noughts() {
			if nought.Cmp(other) != 0 || !reflect.DeepEqual(nought, other) {
				t.Fatal("0 has two forms:", nought, other)
			}
		}
	}
}

// P3.1: Of is n divided by d, in lowest terms, with denominators below 0 too; by 0 it is ErrZero.
func TestOf(t *testing.T) {
	ints := []int{math.MinInt, math.MinInt + 1, math.MaxInt - 1, math.MaxInt, 1 << 32, -1 << 32, 1 << 62}
	for n := -24; n <= 24; n++ {
		ints = append(ints, n)
	}
	for _, n := range ints {
		for _, d := range ints {
			a, e := frac.Of(n, d)
			if d == 0 {
				fails(t, "Of by 0", a, e, api.ErrZero)
				continue
			}
			goes(t, "Of", e)
			is(t, "Of", a, quotient(big.NewInt(int64(n)), big.NewInt(int64(d))))
		}
	}
	a, e := frac.Of(6, -4)
	if e != api.OK || a.Text() != "-3/2" || a.Num().Text() != "-3" || a.Den().Text() != "2" {
		t.Fatal(a.Text(), e)
	}
}

// P3.1: Make is n divided by d, in lowest terms whatever both are multiples of; by 0 it is ErrZero.
func TestMake(t *testing.T) {
	c := chain(362436069)
	factors := []*big.Int{big.NewInt(1), big.NewInt(-1), big.NewInt(2), big.NewInt(-6), power(2, 64), c.integer(1), c.integer(5)}
	for _, b := range samples() {
		for _, f := range factors {
			n, d := new(big.Int).Mul(b.Num(), f), new(big.Int).Mul(b.Denom(), f)
			a, e := frac.Make(integer(n), integer(d))
			goes(t, "Make", e)
			is(t, "Make", a, b)
		}
		for _, nought := range []zed.Int{{}, zed.Of(0), zed.Of(0).Neg(), zed.Of(5).Sub(zed.Of(5))} {
			a, e := frac.Make(integer(b.Num()), nought)
			fails(t, "Make by 0", a, e, api.ErrZero)
		}
	}
	a, e := frac.Make(zed.Int{}, zed.Int{})
	fails(t, "Make of 0 by 0", a, e, api.ErrZero)
}

// P3.1: Whole is that whole number.
func TestWhole(t *testing.T) {
	is(t, "Whole of the zero value", frac.Whole(zed.Int{}), new(big.Rat))
	for _, b := range samples() {
		a := frac.Whole(integer(b.Num()))
		is(t, "Whole", a, whole(b.Num()))
		if a.Den().Text() != "1" || strings.Contains(a.Text(), "/") {
			t.Fatal(a.Text(), a.Den().Text())
		}
	}
}

// P3.1: what has one form alone is the same, however it was made.
func TestOneForm(t *testing.T) {
	two, _ := frac.Parse("2")
	four, _ := frac.Parse("8/4")
	part, _ := of(1, 3).Div(of(1, 6))
	for _, a := range []frac.Rat{two, four, part, frac.Whole(zed.Of(2)), of(-2, -1), of(3, 2).Add(of(1, 2)), of(5, 2).Sub(of(1, 2)), of(4, 3).Mul(of(3, 2)), of(-2, 1).Neg(), frac.Least(four), frac.Most(four)} {
		if !reflect.DeepEqual(a, two) {
			t.Fatal("2 has two forms:", a, two)
		}
	}
}

// P3.1: Parse reads a whole number, or one, a slash and one from 0 on, in lowest terms or not.
func TestParseNumbers(t *testing.T) {
	for _, b := range samples() {
		for _, s := range []string{b.RatString(), b.String(), times(b.Num(), 6).String() + "/" + times(b.Denom(), 6).String()} {
			a, e := frac.Parse(s)
			goes(t, s, e)
			is(t, s, a, b)
		}
	}
	for s, want := range map[string]string{"0": "0", "7": "7", "-7": "-7", "4/6": "2/3", "-4/6": "-2/3", "8/4": "2", "0/9": "0", "0/1": "0", "6/1": "6", "9/3": "3", "-9/9": "-1", "1/1000000000000000000000": "1/1000000000000000000000"} {
		a, e := frac.Parse(s)
		if e != api.OK || a.Text() != want {
			t.Fatal(s, a.Text(), e)
		}
	}
}

// P3.1: what isn't such a text is ErrForm; a denominator of 0 is ErrZero.
func TestParseWrongForms(t *testing.T) {
	wrong := []string{"", "/", "//", "/1", "/2", "/0", "-/2", "-", "1/", "-1/", "0/", "1//", "1//2", "1/2/", "1/2/3", "1/0/", "1/0/1", "/1/2", "1/-2", "-1/-2", "1/-0", "0/-1", "1/--2", "1/+2", "+1/2", "--1/2", "-0", "-0/1", "-0/0", "00", "00/1", "01/2", "-01/2", "1/00", "1/01", "1/02", "x", "x/1", "x/0", "1/x", "1/0x", "x/x", " 1/2", "1 /2", "1/ 2", "1/2 ", "1/2\n", "1.5", "1.0/2", "1/2.0", "1e3/2", "1\\2", "1:2", "1÷2", "½", "1∕2", "1/2-", "1-/2", "1-2", "\x00", "1\x00/2", "1/\x00", "\xff/1", "1/\xff"}
	for _, s := range wrong {
		a, e := frac.Parse(s)
		fails(t, s, a, e, api.ErrForm)
	}
	for _, s := range []string{"0/0", "1/0", "-1/0", "12345678901234567890123/0"} {
		a, e := frac.Parse(s)
		fails(t, s, a, e, api.ErrZero)
	}
}

// P3.1: each byte alone, and on each side of the slash.
func TestParseBytes(t *testing.T) {
	for c := range 256 {
		one := string([]byte{byte(c)})
		digit := c >= '0' && c <= '9'
		right := map[string]bool{
			one:               digit,
			one + "/3":        digit,
			"7" + one:         digit,
			"7" + one + "/3":  digit,
			"7/3" + one:       digit,
			one + "7/3":       digit && c != '0' || c == '-',
			"7/" + one + "3":  digit && c != '0',
			"7" + one + "3":   digit || c == '/',
			"-7" + one + "30": digit || c == '/',
		}
		for s, ok := range right {
			a, e := frac.Parse(s)
			if !ok {
				fails(t, s, a, e, api.ErrForm)
				continue
			}
			want, _ := new(big.Rat).SetString(s)
			goes(t, s, e)
			is(t, s, a, want)
		}
	}
}

// P3.1: parts of as many digits as a number may have are read.
func TestParseLongest(t *testing.T) {
	nines, eights := strings.Repeat("9", api.MaxDigits), strings.Repeat("8", api.MaxDigits)
	for _, s := range []string{nines, "-" + nines, nines + "/" + eights, "-" + nines + "/" + eights, "1/" + nines, "-1/" + eights, "1" + strings.Repeat("0", api.MaxDigits-1) + "/" + nines, "-" + eights + "/1" + strings.Repeat("0", api.MaxDigits-1)} {
		want, _ := new(big.Rat).SetString(s)
		a, e := frac.Parse(s)
		goes(t, s, e)
		is(t, s, a, want)
	}
	a, e := frac.Parse("-" + nines + "/0")
	fails(t, "nines by 0", a, e, api.ErrZero)
}

// P3.1: the error of n's reading is told first, then that of d's, then ErrZero; each part has a length of its own.
func TestParseFirstError(t *testing.T) {
	ones := func(n int) string { return strings.Repeat("1", n) }
	cases := []struct {
		s    string
		want api.Errno
	}{
		{ones(4097), api.ErrLong},
		{"-" + ones(4097), api.ErrLong},
		{ones(4098), api.ErrLong},
		{strings.Repeat("x", 4098), api.ErrLong},
		{ones(4096) + "x", api.ErrForm},
		{"0" + ones(4096), api.ErrForm},
		{"-0" + ones(4095), api.ErrForm},
		{"-" + strings.Repeat("0", 4096), api.ErrForm},

		{ones(4097) + "/1", api.ErrLong},
		{"-" + ones(4097) + "/1", api.ErrLong},
		{ones(4097) + "/0", api.ErrLong},
		{ones(4097) + "/x", api.ErrLong},
		{ones(4097) + "/", api.ErrLong},
		{ones(4097) + "/" + ones(4097), api.ErrLong},
		{"x/" + ones(4097), api.ErrForm},
		{"/" + ones(4097), api.ErrForm},
		{"-0/" + ones(4097), api.ErrForm},
		{ones(4096) + "x/" + ones(4097), api.ErrForm},

		{"1/" + ones(4097), api.ErrLong},
		{"0/" + ones(4097), api.ErrLong},
		{"1/" + strings.Repeat("0", 4097), api.ErrLong},
		{"1/" + strings.Repeat("x", 4097), api.ErrLong},
		{"1/-" + ones(4096), api.ErrLong},
		{"1/2/" + ones(4096), api.ErrLong}, // all behind the first slash is d's text
		{"1/" + strings.Repeat("0", 4096), api.ErrForm},
		{"1/" + strings.Repeat("x", 4096), api.ErrForm},
		{"1/-" + ones(4095), api.ErrForm},
		{"1/" + ones(4095) + "/", api.ErrForm},
		{"1/" + strings.Repeat("/", 1<<20), api.ErrLong},
		{strings.Repeat("/", 1<<20), api.ErrForm},
	}
	for _, c := range cases {
		a, e := frac.Parse(c.s)
		fails(t, c.s[:3]+"..", a, e, c.want)
	}
}

// P3.1: Text is the numerator in lowest terms, and, if the denominator isn't 1, a slash and it, also of numbers longer than what Parse reads.
func TestText(t *testing.T) {
	for _, b := range samples() {
		if s := number(b).Text(); s != b.RatString() {
			t.Fatal(s, b)
		}
	}
	for _, b := range []*big.Rat{whole(power(10, 5000)), quotient(power(-3, 10001), power(2, 20000)), quotient(big.NewInt(1), power(7, 6000))} {
		is(t, "long", number(b), b)
	}
}
