package record_test

import (
	"bytes"
	"math"
	"slices"
	"strings"
	"testing"

	"pellicle/api"
	"pellicle/record"
)

// numbers asks for the numbers that bytes are, and that they stay as they are.
func numbers(t *testing.T, call func([]byte) ([]int, api.Errno), b []byte, want ...int) {
	t.Helper()
	before := bytes.Clone(b)
	l, e := call(b)
	if e != api.OK || !slices.Equal(l, want) {
		t.Fatalf("% x: %v, error %d, want %v", short(b), l, e, want)
	}
	if !bytes.Equal(b, before) {
		t.Fatalf("% x became % x", short(before), short(b))
	}
}

// P6.3: the least and the greatest numbers, the highest byte first, with a sign.
func TestShortsAndLongs(t *testing.T) {
	numbers(t, record.Shorts, []byte{0x02, 0x58}, 600)
	numbers(t, record.Shorts, []byte{0, 0, 0, 1, 0x7f, 0xff, 0x80, 0, 0xff, 0xff, 0xff, 0, 0, 0xff}, 0, 1, 32767, -32768, -1, -256, 255)
	numbers(t, record.Shorts, nil)
	numbers(t, record.Shorts, []byte{})
	numbers(t, record.Longs, []byte{0, 0, 2, 0x58}, 600)
	numbers(t, record.Longs, []byte{0x7f, 0xff, 0xff, 0xff, 0x80, 0, 0, 0, 0xff, 0xff, 0xff, 0xff, 0x80, 0, 0, 1, 0, 1, 0, 0, 0xff, 0, 0, 0}, math.MaxInt32, math.MinInt32, -1, -math.MaxInt32, 65536, -1<<24)
	numbers(t, record.Longs, []byte{1, 2, 3, 4, 0, 0x80, 0, 0, 0, 0, 0x80, 0, 0, 0, 0, 0x80}, 0x01020304, 0x800000, 0x8000, 0x80)
	numbers(t, record.Longs, nil)
	numbers(t, record.Longs, []byte{})
}

// P6.3: each number of two bytes, and many of four, there and back.
func TestNumbersThereAndBack(t *testing.T) {
	var all []int
	for n := math.MinInt16; n <= math.MaxInt16; n++ {
		all = append(all, n)
		b := record.OfShorts(n)
		if len(b) != 2 || int(b[0])*256+int(b[1]) != (n+65536)%65536 {
			t.Fatalf("%d: % x", n, b)
		}
	}
	numbers(t, record.Shorts, record.OfShorts(all...), all...)
	all = all[:0]
	for shift := range 32 {
		for _, n := range []int{1<<shift - 1, 1 << shift, 1<<shift + 1, -1 << shift, -1<<shift - 1, -1<<shift + 1} {
			if n >= math.MinInt32 && n <= math.MaxInt32 {
				all = append(all, n)
			}
		}
	}
	c := chance()
	for range 10000 {
		all = append(all, int(int32(c.Uint32())))
	}
	for _, n := range all {
		b := record.OfLongs(n)
		if len(b) != 4 || ((int(b[0])*256+int(b[1]))*256+int(b[2]))*256+int(b[3]) != (n+1<<32)%(1<<32) {
			t.Fatalf("%d: % x", n, b)
		}
		numbers(t, record.Longs, b, n)
	}
	numbers(t, record.Longs, record.OfLongs(all...), all...)
}

// P6.3: of numbers of more bits the lowest 16, 32 count.
func TestNumbersOfMoreBits(t *testing.T) {
	shorts := map[int]int{32768: -32768, 65535: -1, 65536: 0, 65537: 1, -32769: 32767, -65536: 0, -65537: -1, math.MaxInt: -1, math.MinInt: 0, math.MinInt + 5: 5, 0x123456789abcdef0: -0x2110}
	for n, want := range shorts {
		numbers(t, record.Shorts, record.OfShorts(n), want)
	}
	longs := map[int]int{1 << 31: math.MinInt32, 1<<32 - 1: -1, 1 << 32: 0, 1<<32 + 1: 1, -1<<31 - 1: math.MaxInt32, -1 << 32: 0, -1<<32 - 1: -1, math.MaxInt: -1, math.MinInt: 0, math.MinInt + 5: 5, 0x123456789abcdef0: -0x65432110}
	for n, want := range longs {
		numbers(t, record.Longs, record.OfLongs(n), want)
	}
	c := chance()
	for range 10000 {
		n := int(c.Uint64())
		numbers(t, record.Shorts, record.OfShorts(n, ^n), int(int16(n)), int(int16(^n)))
		numbers(t, record.Longs, record.OfLongs(n, ^n), int(int32(n)), int(int32(^n)))
	}
}

// P6.3: the numbers stand in their order; no numbers are no bytes.
func TestNumbersInARow(t *testing.T) {
	if b := record.OfShorts(1, -2, 3); !bytes.Equal(b, []byte{0, 1, 0xff, 0xfe, 0, 3}) {
		t.Fatalf("% x", b)
	}
	if b := record.OfLongs(1, -2); !bytes.Equal(b, []byte{0, 0, 0, 1, 0xff, 0xff, 0xff, 0xfe}) {
		t.Fatalf("% x", b)
	}
	if len(record.OfShorts()) != 0 || len(record.OfLongs()) != 0 || len(record.OfShorts([]int{}...)) != 0 || len(record.OfLongs(nil...)) != 0 {
		t.Fatal("no numbers have bytes")
	}
}

// P6.3: bytes whose number is no multiple of 2, of 4 are ErrForm, and nothing beside it.
func TestNumbersWrong(t *testing.T) {
	b := some(chance(), 6000)
	for n := range len(b) {
		l, e := record.Shorts(b[:n])
		if n%2 == 0 && (e != api.OK || len(l) != n/2) || n%2 != 0 && (e != api.ErrForm || len(l) != 0) {
			t.Fatal(n, len(l), e)
		}
		l, e = record.Longs(b[:n])
		if n%4 == 0 && (e != api.OK || len(l) != n/4) || n%4 != 0 && (e != api.ErrForm || len(l) != 0) {
			t.Fatal(n, len(l), e)
		}
	}
}

// P6.3: one 0 at the end is none of the text; others are.
func TestText(t *testing.T) {
	for b, want := range map[string]string{
		"": "", "\x00": "", "\x00\x00": "\x00", "\x00\x00\x00": "\x00\x00", "a": "a", "a\x00": "a", "ab": "ab", "abc\x00": "abc",
		"a\x00\x00": "a\x00", "\x00a": "\x00a", "\x00a\x00": "\x00a", "a\x00b": "a\x00b", "a\x00b\x00": "a\x00b", "a ": "a ", "a0": "a0", "\xff\x80\x00": "\xff\x80", "é": "é",
	} {
		room := []byte(b + "x")
		if got := record.Text(room[:len(b)]); got != want {
			t.Fatalf("%q: %q, want %q", b, got, want)
		}
		if string(room) != b+"x" {
			t.Fatalf("%q became %q", b+"x", room)
		}
	}
	if record.Text(nil) != "" {
		t.Fatal("nil")
	}
}

// P6.3: a text of an odd number of bytes has a 0 behind it, one of an even number has none.
func TestOfText(t *testing.T) {
	for s, want := range map[string]string{"": "", "a": "a\x00", "ab": "ab", "abc": "abc\x00", "\x00": "\x00\x00", "a\x00": "a\x00", "a\x00\x00": "a\x00\x00\x00", "é": "é", "aé": "aé\x00", "\xff": "\xff\x00"} {
		if b := record.OfText(s); string(b) != want {
			t.Fatalf("%q: %q, want %q", s, b, want)
		}
	}
	for n := range 1100 {
		s := strings.Repeat("q", n)
		b := record.OfText(s)
		if len(b) != n+n%2 || !strings.HasPrefix(string(b), s) || record.Text(b) != s || n%2 != 0 && b[n] != 0 {
			t.Fatal(n, len(b))
		}
	}
}
