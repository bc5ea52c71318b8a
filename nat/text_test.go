package nat_test

import (
	"math/big"
	"strings"
	"testing"

	"pellicle/api"
	"pellicle/nat"
)

// P1.1: Of is that number; the zero value is 0.
func TestOf(t *testing.T) {
	is(t, "the zero value", nat.Nat{}, new(big.Int))
	for _, n := range []uint64{0, 1, 2, 9, 10, 999999999, 1000000000, 1<<32 - 1, 1 << 32, 1 << 63, 1<<64 - 1} {
		is(t, "Of", nat.Of(n), new(big.Int).SetUint64(n))
	}
}

// P1.1: Parse reads what is digits, without a 0 ahead of another one.
func TestParseNumbers(t *testing.T) {
	for _, b := range samples() {
		a, e := nat.Parse(b.String())
		goes(t, "Parse "+b.String(), e)
		is(t, "Parse", a, b)
	}
	for n := 1; n < 100; n++ { // each length, where digits are read in groups
		for _, s := range []string{strings.Repeat("9", n), "1" + strings.Repeat("0", n-1), "1" + strings.Repeat("0", n-1) + "1", strings.Repeat("1234567890", 10)[:n]} {
			want, _ := new(big.Int).SetString(s, 10)
			a, e := nat.Parse(s)
			goes(t, "Parse "+s, e)
			is(t, "Parse "+s, a, want)
		}
	}
}

// P1.1: what isn't such digits is ErrForm.
func TestParseWrongForms(t *testing.T) {
	wrong := []string{"", "0012", "00", "01", "000000000", "0000000001", "-1", "-0", "+1", " 1", "1 ", "1\n", "\x001", "1\x00", "1_000", "1,000", "1.0", "1.", "0x1", "1e3", "a", "١", "１", "1\xff", "0 ", "0-"}
	for _, s := range wrong {
		a, e := nat.Parse(s)
		fails(t, "Parse "+s, a, e, api.ErrForm)
	}
	for c := range 256 { // each byte alone, ahead, between and behind
		digit := c >= '0' && c <= '9'
		for i, s := range []string{string([]byte{byte(c)}), string([]byte{byte(c), '7'}), string([]byte{'7', byte(c), '7'}), "12345678" + string([]byte{byte(c)}), "1234567890123456789" + string([]byte{byte(c)})} {
			a, e := nat.Parse(s)
			if digit && !(i == 1 && c == '0') {
				goes(t, "Parse "+s, e)
				if a.Text() != s {
					t.Fatal(s, a.Text())
				}
			} else {
				fails(t, "Parse "+s, a, e, api.ErrForm)
			}
		}
	}
}

// P1.1: more than 4096 bytes are ErrLong, whatever they are.
func TestParseLong(t *testing.T) {
	for _, s := range []string{strings.Repeat("9", 4096), "1" + strings.Repeat("0", 4095), strings.Repeat("1234567890", 410)[:4096], strings.Repeat("8", 4095)} {
		want, _ := new(big.Int).SetString(s, 10)
		a, e := nat.Parse(s)
		goes(t, "Parse", e)
		is(t, "Parse", a, want)
	}
	for _, s := range []string{"0" + strings.Repeat("1", 4095), strings.Repeat("0", 4096), strings.Repeat("1", 4095) + "x", "x" + strings.Repeat("1", 4095), "-" + strings.Repeat("1", 4095)} {
		a, e := nat.Parse(s)
		fails(t, "Parse "+s[:3], a, e, api.ErrForm)
	}
	for _, s := range []string{strings.Repeat("9", 4097), strings.Repeat("0", 4097), strings.Repeat("x", 4097), "1" + strings.Repeat("0", 4096), "-" + strings.Repeat("1", 4096), strings.Repeat("7", 1<<20)} {
		a, e := nat.Parse(s)
		fails(t, "Parse "+s[:3], a, e, api.ErrLong)
	}
}

// P1.1: Text tells numbers of any length, with the 0s that stand within.
func TestText(t *testing.T) {
	for k := int64(0); k < 120; k++ {
		for _, n := range []int64{-1, 0, 1} {
			b := new(big.Int).Add(power(10, k), big.NewInt(n))
			is(t, "Text", number(b), b)
		}
	}
	for _, k := range []int64{4095, 4096, 9000} { // longer than what Parse reads
		for _, b := range []*big.Int{power(10, k), new(big.Int).Sub(power(10, k), big.NewInt(1)), power(7, k)} {
			is(t, "Text", number(b), b)
		}
	}
	if s := number(power(2, 64)).Text(); s != "18446744073709551616" {
		t.Fatal(s)
	}
}

// P1.1: Word is the number up to 2^64 - 1, and 0 and false from 2^64 on, whatever the lower bits are.
func TestWord(t *testing.T) {
	for _, n := range []uint64{0, 1, 1<<32 - 1, 1 << 32, 1<<64 - 2, 1<<64 - 1} {
		if w, ok := nat.Of(n).Word(); w != n || !ok {
			t.Fatal(n, w, ok)
		}
	}
	for _, b := range []*big.Int{ofWords(1, 0), ofWords(1, 1), ofWords(1, 1<<64-1), ofWords(1<<63, 5), ofWords(1, 0, 0), ofWords(1, 0, 7), power(2, 65536)} {
		if w, ok := number(b).Word(); w != 0 || ok {
			t.Fatal(short(b.String()), w, ok)
		}
	}
}
