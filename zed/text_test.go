package zed_test

import (
	"math"
	"math/big"
	"strings"
	"testing"

	"pellicle/api"
	"pellicle/nat"
	"pellicle/zed"
)

// P2.1: Of is that number, the least and the greatest int too; the zero value is 0.
func TestOf(t *testing.T) {
	is(t, "the zero value", zed.Int{}, new(big.Int))
	for _, n := range ints() {
		is(t, "Of", zed.Of(n), big.NewInt(int64(n)))
	}
}

// P2.1: Big is that number.
func TestBig(t *testing.T) {
	is(t, "Big of the zero value", zed.Big(nat.Nat{}), new(big.Int))
	for _, b := range samples() {
		is(t, "Big", zed.Big(distance(b)), new(big.Int).Abs(b))
	}
}

// P2.1: Parse reads digits, and - with digits that aren't 0.
func TestParseNumbers(t *testing.T) {
	for _, b := range samples() {
		a, e := zed.Parse(b.String())
		goes(t, "Parse "+b.String(), e)
		is(t, "Parse", a, b)
	}
	for _, s := range []string{"0", "1", "-1", "9", "-9", "10", "-10", "-100200300400500600700800900"} {
		want, _ := new(big.Int).SetString(s, 10)
		a, e := zed.Parse(s)
		goes(t, "Parse "+s, e)
		is(t, "Parse "+s, a, want)
	}
}

// P2.1: what isn't such digits is ErrForm.
func TestParseWrongForms(t *testing.T) {
	wrong := []string{"", "-", "-0", "00", "-00", "01", "-01", "-0012", "0012", "--1", "--", "-+1", "+1", "+0", " 1", "-1 ", "- 1", " -1", "1-", "1-1", "-1-", "0-", "-0-", "-a", "x", "1.0", "-1.", "1e3", "-0x1", "1_000", "−1", "-١", "\x00", "-\x00", "-1\n", "\xff", "-\xff", "-000000000"}
	for _, s := range wrong {
		a, e := zed.Parse(s)
		fails(t, "Parse "+s, a, e, api.ErrForm)
	}
	for c := range 256 { // each byte alone, ahead and behind
		digit := c >= '0' && c <= '9'
		one := string([]byte{byte(c)})
		for s, right := range map[string]bool{one: digit, "-" + one: digit && c != '0', one + "7": digit && c != '0' || c == '-', "-7" + one: digit, "-7" + one + "7": digit} {
			a, e := zed.Parse(s)
			if !right {
				fails(t, "Parse "+s, a, e, api.ErrForm)
				continue
			}
			goes(t, "Parse "+s, e)
			if a.Text() != s {
				t.Fatal(s, a.Text())
			}
		}
	}
}

// P2.1: 4096 digits are read, with a - and without.
func TestParseLongest(t *testing.T) {
	for _, digits := range []string{strings.Repeat("9", 4096), "1" + strings.Repeat("0", 4095), strings.Repeat("1234567890", 410)[:4096], strings.Repeat("8", 4095)} {
		for _, s := range []string{digits, "-" + digits} {
			want, _ := new(big.Int).SetString(s, 10)
			a, e := zed.Parse(s)
			goes(t, "Parse "+s[:3], e)
			is(t, "Parse", a, want)
		}
	}
}

// P2.1: up to 4097 bytes what is of the wrong form is ErrForm, and then what has more than 4096 digits is ErrLong; of more bytes all is ErrLong.
func TestParseLong(t *testing.T) {
	ones := func(n int) string { return strings.Repeat("1", n) }
	cases := []struct {
		s    string
		want api.Errno
	}{
		{"0" + ones(4095), api.ErrForm},
		{"x" + ones(4095), api.ErrForm},
		{"-0" + ones(4094), api.ErrForm},
		{"-" + strings.Repeat("0", 4095), api.ErrForm},
		{strings.Repeat("0", 4096), api.ErrForm},
		{"-" + ones(4094) + "-", api.ErrForm},

		{ones(4097), api.ErrLong},
		{"1" + strings.Repeat("0", 4096), api.ErrLong},
		{strings.Repeat("9", 4097), api.ErrLong},
		{"0" + ones(4096), api.ErrForm},
		{strings.Repeat("0", 4097), api.ErrForm},
		{"x" + ones(4096), api.ErrForm},
		{"+" + ones(4096), api.ErrForm},
		{ones(4096) + "x", api.ErrForm},
		{ones(4096) + "-", api.ErrForm},
		{ones(4096) + "/", api.ErrForm},
		{ones(4096) + ":", api.ErrForm},
		{ones(2000) + " " + ones(2096), api.ErrForm},
		{"-0" + ones(4095), api.ErrForm},
		{"-" + strings.Repeat("0", 4096), api.ErrForm},
		{"-" + ones(4095) + "x", api.ErrForm},
		{"--" + ones(4095), api.ErrForm},

		{ones(4098), api.ErrLong},
		{"-" + ones(4097), api.ErrLong},
		{"-0" + ones(4096), api.ErrLong},
		{"0" + ones(4097), api.ErrLong},
		{"--" + ones(4096), api.ErrLong},
		{strings.Repeat("x", 4098), api.ErrLong},
		{strings.Repeat("-", 4098), api.ErrLong},
		{"-" + strings.Repeat("7", 1<<20), api.ErrLong},
	}
	for _, c := range cases {
		a, e := zed.Parse(c.s)
		if e != c.want {
			t.Errorf("Parse %s.. of %d bytes: error %d, want %d", c.s[:3], len(c.s), e, c.want)
			continue
		}
		fails(t, "Parse", a, e, c.want)
	}
}

// P2.1: Text is - ahead, if it is below 0, then the digits, also of numbers longer than what Parse reads.
func TestText(t *testing.T) {
	for _, k := range []int64{1, 9, 19, 20, 100, 4096, 5000} {
		for _, n := range []int64{-1, 0, 1} {
			b := plus(power(10, k), n)
			is(t, "Text", number(b), b)
			b.Neg(b)
			is(t, "Text", number(b), b)
		}
	}
}

// P2.1: Small is the number from -2^63 to 2^63 - 1, and 0 and false beyond, whatever the lower bits are.
func TestSmall(t *testing.T) {
	for _, n := range ints() {
		if m, ok := number(big.NewInt(int64(n))).Small(); m != n || !ok {
			t.Fatal(n, m, ok)
		}
	}
	if n, ok := zed.Of(math.MinInt).Sub(zed.Of(-1)).Small(); n != math.MinInt+1 || !ok {
		t.Fatal(n, ok)
	}
	if n, ok := zed.Of(math.MinInt + 1).Add(zed.Of(-1)).Small(); n != math.MinInt || !ok {
		t.Fatal(n, ok)
	}
	half, full, next := power(2, 63), plus(power(2, 64), -1), power(2, 64)
	for _, b := range []*big.Int{half, plus(half, 1), full, next, plus(next, 1), plus(next, 5), power(2, 127), power(2, 128), plus(power(2, 700), 9)} {
		if n, ok := number(b).Small(); n != 0 || ok {
			t.Fatal(b, n, ok)
		}
		below := new(big.Int).Neg(b)
		if b == half {
			below.Sub(below, big.NewInt(1))
		}
		if n, ok := number(below).Small(); n != 0 || ok {
			t.Fatal(below, n, ok)
		}
	}
}
