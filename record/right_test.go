package record_test

import (
	"bytes"
	"slices"
	"strings"
	"testing"

	"pellicle/api"
	"pellicle/record"
)

// row is a row of the chapter's table: kinds, their Data, how many bytes a body may have: from least on, in steps, to most.
type row struct {
	kinds             []byte
	data              byte
	least, step, most int
	text              string // text, name, or empty if any bytes do
}

func table() []row {
	return []row{
		{[]byte{0x00, 0x0d, 0x0e, 0x16, 0x21, 0x22, 0x2a, 0x2b, 0x2e, 0x36, 0x39}, 2, 2, 1, 2, ""},
		{[]byte{0x01, 0x05}, 2, 24, 1, 24, ""},
		{[]byte{0x13}, 2, 4, 1, 4, ""},
		{[]byte{0x3b}, 2, 6, 6, 192, ""},
		{[]byte{0x04, 0x07, 0x08, 0x09, 0x0a, 0x0b, 0x0c, 0x11, 0x15, 0x2d, 0x38}, 0, 0, 1, 0, ""},
		{[]byte{0x0f, 0x2f, 0x30, 0x31}, 3, 4, 1, 4, ""},
		{[]byte{0x10}, 3, 8, 8, 65528, ""},
		{[]byte{0x1b, 0x1c}, 5, 8, 1, 8, ""},
		{[]byte{0x03}, 5, 16, 1, 16, ""},
		{[]byte{0x17, 0x1a, 0x26, 0x34}, 1, 2, 1, 2, ""},
		{[]byte{0x02, 0x19, 0x2c, 0x37, 0x3a}, 6, 2, 2, 512, "text"},
		{[]byte{0x06, 0x12}, 6, 2, 2, 32, "name"},
		{[]byte{0x23}, 6, 44, 1, 44, ""},
		{[]byte{0x20}, 6, 176, 1, 176, ""},
		{[]byte{0x1f}, 6, 44, 44, 748, ""},
	}
}

// rowOf finds the row of a kind, if it has one.
func rowOf(kind byte) (row, bool) {
	for _, w := range table() {
		if slices.Contains(w.kinds, kind) {
			return w, true
		}
	}
	return row{}, false
}

// right asks whether a record is right, and that it stays as it is.
func right(t *testing.T, r api.Record, want bool) {
	t.Helper()
	before := bytes.Clone(r.Body)
	if record.Right(r) != want {
		t.Fatalf("Right of kind %02x, Data %d, %d bytes % x: want %t", r.Kind, r.Data, len(r.Body), short(r.Body), want)
	}
	if !bytes.Equal(r.Body, before) {
		t.Fatalf("% x became % x", short(before), short(r.Body))
	}
}

// P6.1: there are 48 kinds, each with a row of its own; all others are none, whatever they hold.
func TestRightKinds(t *testing.T) {
	listed := 0
	for kind := range 256 {
		if _, ok := rowOf(byte(kind)); ok {
			listed++
			continue
		}
		for data := range 256 {
			for _, n := range []int{0, 1, 2, 4, 6, 8, 16, 24, 32, 44, 176, 512, 748} {
				right(t, of(byte(kind), byte(data), bytes.Repeat([]byte("a"), n)...), false)
			}
		}
	}
	if listed != 48 {
		t.Fatal(listed)
	}
}

// P6.1: of the bytes that a body may have, the least and the greatest number, those between, and no other.
func TestRightSizes(t *testing.T) {
	fill := bytes.Repeat([]byte("a"), 1<<17)
	for _, w := range table() {
		for _, kind := range w.kinds {
			for n := range 70000 {
				want := n >= w.least && n <= w.most && (n-w.least)%w.step == 0
				if record.Right(api.Record{Kind: kind, Data: w.data, Body: fill[:n]}) != want {
					t.Fatalf("kind %02x, %d bytes: want %t", kind, n, want)
				}
			}
			right(t, api.Record{Kind: kind, Data: w.data, Body: fill}, false)
			right(t, api.Record{Kind: kind, Data: w.data, Body: fill[:1<<16]}, false)
			right(t, of(kind, w.data), w.least == 0)
			right(t, api.Record{Kind: kind, Data: w.data, Body: []byte{}}, w.least == 0)
		}
	}
}

// P6.1: no Data but the kind's own.
func TestRightData(t *testing.T) {
	fill := bytes.Repeat([]byte("a"), 70000)
	for _, w := range table() {
		for _, kind := range w.kinds {
			for data := range 256 {
				for _, n := range []int{0, 2, 4, 8, 16, 24, 44, 176, w.least, w.most} {
					want := byte(data) == w.data && n >= w.least && n <= w.most && (n-w.least)%w.step == 0
					right(t, of(kind, byte(data), fill[:n]...), want)
				}
			}
		}
	}
}

// P6.1: bodies that are no texts may hold any bytes.
func TestRightAnyBytes(t *testing.T) {
	c := chance()
	for _, w := range table() {
		if w.text != "" || w.most == 0 {
			continue
		}
		for _, kind := range w.kinds {
			for fill := range 256 {
				right(t, of(kind, w.data, bytes.Repeat([]byte{byte(fill)}, w.least)...), true)
			}
			for range 20 {
				right(t, of(kind, w.data, some(c, w.most)...), true)
			}
		}
	}
}

// may tells whether a text, or a name, may have a byte that isn't its last one.
func may(text string, sign byte) bool {
	if text == "name" {
		return strings.IndexByte("ABCDEFGHIJKLMNOPQRSTUVWXYZabcdefghijklmnopqrstuvwxyz0123456789_?$", sign) >= 0
	}
	return sign != 0
}

// spelt calls do for each kind whose body is a text, and the most bytes that it may have.
func spelt(do func(w row, kind byte)) {
	for _, w := range table() {
		for _, kind := range w.kinds {
			if w.text != "" {
				do(w, kind)
			}
		}
	}
}

// P6.1: each byte at each place of texts and names; a 0 at the end alone, behind another byte, in an even number of bytes.
func TestRightSigns(t *testing.T) {
	spelt(func(w row, kind byte) {
		for _, n := range []int{1, 2, 3, 4, 31, 32, w.most - 1, w.most} {
			for _, place := range []int{0, 1, n / 2, n - 2, n - 1} {
				if place < 0 || place >= n {
					continue
				}
				for sign := range 256 {
					body := bytes.Repeat([]byte("a"), n)
					body[place] = byte(sign)
					end := sign == 0 && place == n-1
					right(t, of(kind, 6, body...), n%2 == 0 && (end || may(w.text, byte(sign))))
				}
			}
		}
	})
}

// P6.1: texts of each number of bytes, with the 0 at their end and without: those of an even number alone, from 2 to the most.
func TestRightOddAndEven(t *testing.T) {
	spelt(func(w row, kind byte) {
		for n := range w.most + 9 {
			want := n >= 2 && n%2 == 0 && n <= w.most
			full := bytes.Repeat([]byte("a"), n)
			right(t, of(kind, 6, full...), want)
			if n > 0 {
				full[n-1] = 0
				right(t, of(kind, 6, full...), want)
			}
			if n > 1 {
				full[n-2] = 0
				right(t, of(kind, 6, full...), false)
			}
			right(t, of(kind, 6, record.OfText(strings.Repeat("a", n))...), n > 0 && n <= w.most)
		}
	})
}

// P6.1: the shortest texts: of two bytes and of four; one byte and three are none, with a 0 at the end or without.
func TestRightShortTexts(t *testing.T) {
	spelt(func(_ row, kind byte) {
		right(t, of(kind, 6, 0x61), false)
		right(t, of(kind, 6, 0x00), false)
		right(t, of(kind, 6, 0x61, 0x00), true)
		right(t, of(kind, 6, 0x61, 0x62), true)
		right(t, of(kind, 6, 0x61, 0x62, 0x00), false)
		right(t, of(kind, 6, 0x61, 0x62, 0x63), false)
		right(t, of(kind, 6, 0x61, 0x62, 0x63, 0x00), true)
	})
	right(t, of(0x2c, 6, 0x01), false)
	right(t, of(0x2c, 6, 0x01, 0x00), true)
	right(t, of(0x2c, 6, 0x01, 0x01), true)
}

// P6.1: texts at the least and the greatest length, with the 0 at their end and without; no 0 counts as one more.
func TestRightEnds(t *testing.T) {
	spelt(func(w row, kind byte) {
		full := bytes.Repeat([]byte("Z"), w.most+2)
		right(t, of(kind, 6, 'x'), false)
		right(t, of(kind, 6, 'x', 'y'), true)
		right(t, of(kind, 6, 'x', 0), true)
		right(t, of(kind, 6, 0), false)
		right(t, of(kind, 6, 0, 0), false)
		right(t, of(kind, 6, 0, 'x'), false)
		right(t, of(kind, 6, 'x', 0, 0), false)
		right(t, of(kind, 6, 'x', 0, 0, 0), false)
		right(t, of(kind, 6, 'x', 'y', 0, 0), false)
		right(t, of(kind, 6, 'x', 0, 'x', 0), false)
		right(t, of(kind, 6, full[:w.most-1]...), false)
		right(t, of(kind, 6, append(bytes.Clone(full[:w.most-2]), 0)...), false)
		right(t, of(kind, 6, full[:w.most]...), true)
		right(t, of(kind, 6, append(bytes.Clone(full[:w.most-1]), 0)...), true)
		right(t, of(kind, 6, append(bytes.Clone(full[:w.most-2]), 0, 0)...), false)
		right(t, of(kind, 6, append(bytes.Clone(full[:w.most]), 0)...), false)
		right(t, of(kind, 6, append(bytes.Clone(full[:w.most+1]), 0)...), false)
		right(t, of(kind, 6, full[:w.most+1]...), false)
		right(t, of(kind, 6, full...), false)
	})
}

// P6.1: names with other signs are texts, but no names; without the 0 that an odd number of bytes needs they are neither.
func TestRightNames(t *testing.T) {
	for _, kind := range []byte{0x06, 0x12} {
		for _, name := range []string{"a", "Z", "0", "_", "?", "$", "A_0?$z9Za", "$$$", "00", "abcdefghijklmnopqrstuvwxyz01234", "abcdefghijklmnopqrstuvwxyz012345"} {
			right(t, of(kind, 6, record.OfText(name)...), true)
			right(t, of(kind, 6, []byte(name)...), len(name)%2 == 0)
		}
		for _, name := range []string{"", "a b", "a-b", "a.b", "@", "[", "`", "{", "/", ":", "a\n", "é", "a\x80", "a\xff", "#", "%", ">", "^"} {
			right(t, of(kind, 6, record.OfText(name)...), false)
			right(t, of(kind, 6, []byte(name)...), false)
			right(t, of(0x19, 6, record.OfText(name)...), name != "")
			right(t, of(0x19, 6, []byte(name)...), name != "" && len(name)%2 == 0)
		}
	}
}

// P6.1, P6.2: what is right can be joined, and is split as it was.
func TestRightIsJoined(t *testing.T) {
	fill := bytes.Repeat([]byte("a"), 65600)
	seen := 0
	for _, w := range table() {
		for _, kind := range w.kinds {
			for n := range fill {
				r := api.Record{Kind: kind, Data: w.data, Body: fill[:n]}
				if !record.Right(r) {
					continue
				}
				seen++
				l := []api.Record{r, end()}
				if kind == 0x04 {
					l = l[1:]
				}
				joins(t, l, stream(l...))
				splits(t, stream(l...), l, len(stream(l...)))
			}
		}
	}
	if seen < 8191+5*256+2*16+32+17 {
		t.Fatal(seen)
	}
}

// P6.1: an ENDLIB with a body, or with other Data, is not right, though Split ends at it.
func TestRightOfTheEnd(t *testing.T) {
	right(t, end(), true)
	right(t, of(0x04, 0, 0, 0), false)
	right(t, of(0x04, 2), false)
	right(t, api.Record{}, false)
}
