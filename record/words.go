package record

import (
	"bytes"

	"pellicle/api"
)

const (
	shortBytes = 2
	longBytes  = 4
)

// Shorts: the numbers of two bytes each.
func Shorts(b []byte) ([]int, api.Errno) { return numbers(b, shortBytes) }

// Longs: the numbers of four bytes each.
func Longs(b []byte) ([]int, api.Errno) { return numbers(b, longBytes) }

// numbers gives the numbers of so many bytes each.
func numbers(b []byte, size int) ([]int, api.Errno) {
	if len(b)%size != 0 {
		return nil, api.ErrForm
	}
	l := make([]int, 0, len(b)/size)
	for ; len(b) > 0; b = b[size:] {
		l = append(l, number(b[:size]))
	}
	return l, api.OK
}

// number gives the number that bytes are, the highest first, whose highest bit is the sign.
func number(b []byte) int {
	n := int(int8(b[0]))
	for _, next := range b[1:] {
		n = n<<8 | int(next)
	}
	return n
}

// OfShorts: the bytes of numbers.
func OfShorts(l ...int) []byte { return laid(l, shortBytes) }

// OfLongs: the bytes of numbers.
func OfLongs(l ...int) []byte { return laid(l, longBytes) }

// laid gives the lowest bytes of each number, so many of each, the highest first.
func laid(l []int, size int) []byte {
	b := make([]byte, 0, len(l)*size)
	for _, n := range l {
		for place := size - 1; place >= 0; place-- {
			b = append(b, byte(n>>(8*place)))
		}
	}
	return b
}

// Text: the text of a body.
func Text(b []byte) string { return string(letters(b)) }

// letters gives a text's bytes without the 0 that makes them an even number.
func letters(b []byte) []byte { return bytes.TrimSuffix(b, []byte{0}) }

// OfText: the bytes of a text.
func OfText(s string) []byte {
	b := []byte(s)
	if len(b)%2 != 0 {
		b = append(b, 0)
	}
	return b
}
