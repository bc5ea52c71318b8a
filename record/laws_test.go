package record_test

import (
	"bytes"
	"math"
	"slices"
	"testing"

	"pellicle/api"
	"pellicle/record"
)

// lists gives lists of records of which the last one alone is an ENDLIB.
func lists() [][]api.Record {
	c := chance()
	l := [][]api.Record{{end()}, {of(0x04, 9, 4, 4)}, {of(0x00, 2, 2, 88), end()}}
	for n := range 60 {
		var one []api.Record
		for range n {
			kind := byte(c.IntN(255))
			if kind >= 0x04 { // so that none is an ENDLIB
				kind++
			}
			one = append(one, of(kind, byte(c.Uint32()), some(c, 2*c.IntN(40))...))
		}
		l = append(l, append(one, of(0x04, byte(c.IntN(3)), some(c, 2*c.IntN(3))...)))
	}
	return append(l, []api.Record{of(0x10, 3, some(c, 65530)...), of(0x1f, 6, some(c, 65530)...), of(0x04, 0, some(c, 65530)...)})
}

// P6.4: what is joined is split into the same records, and what is split is joined to the bytes that were counted.
func TestJoinedAndSplit(t *testing.T) {
	for _, l := range lists() {
		b, e := record.Join(l)
		if e != api.OK {
			t.Fatal(e)
		}
		splits(t, b, l, len(b))
		for _, behind := range []int{1, 2, 3, 2048} {
			long := append(bytes.Clone(b), make([]byte, behind)...)
			again, n, e := record.Split(long)
			if e != api.OK || n != len(b) {
				t.Fatal(n, e)
			}
			joins(t, again, long[:n])
		}
	}
}

// P6.4: all of the greatest stream comes back.
func TestJoinedAndSplitOfTheGreatest(t *testing.T) {
	b, _ := full(1 << 24)
	l, n, e := record.Split(b)
	if e != api.OK || n != len(b) {
		t.Fatal(n, e)
	}
	joins(t, l, b)
}

// P6.4: what stands behind the end of what is handed in isn't changed.
func TestRoomStays(t *testing.T) {
	for _, l := range lists() {
		b := stream(l...)
		room := slices.Concat(b, []byte{1, 2, 3, 4, 5, 6, 7, 8})
		before := bytes.Clone(room)
		record.Split(room[:len(b)])
		record.Shorts(room[:len(b)])
		record.Longs(room[:len(b)])
		record.Text(room[:len(b)-1])
		record.Join([]api.Record{{Kind: 0x10, Body: room[:2]}, {Kind: 0x10, Body: room[:len(b)]}})
		record.Right(api.Record{Kind: 0x19, Data: 6, Body: room[:len(b)]})
		if !bytes.Equal(room, before) {
			t.Fatalf("% x became % x", short(before), short(room))
		}
	}
	ns := []int{1, 2, 3, 4, 5}
	record.OfShorts(ns[:3]...)
	record.OfLongs(ns[:3]...)
	if !slices.Equal(ns, []int{1, 2, 3, 4, 5}) {
		t.Fatal(ns)
	}
}

// P6.4: what was split stays when the stream does not, and no two bodies share memory.
func TestSplitIsNew(t *testing.T) {
	for _, l := range lists() {
		b := stream(l...)
		got, _, _ := record.Split(b)
		other, _, _ := record.Split(b)
		clear(b)
		if !alike(got, l) {
			t.Fatal("records hang on the stream")
		}
		for i := range got {
			for k := range got[i].Body {
				got[i].Body[k] ^= 0xff
			}
			spoilt := append(got[i].Body, 0xff, 0xff, 0xff, 0xff)
			clear(spoilt[:cap(spoilt)])
			if !alike(got[i+1:], l[i+1:]) {
				t.Fatal("bodies share memory")
			}
		}
		if !alike(other, l) {
			t.Fatal("two answers share memory")
		}
	}
}

// P6.4: what was joined stays when the records do not, and is shared by no other answer.
func TestJoinIsNew(t *testing.T) {
	for _, l := range lists() {
		want := stream(l...)
		mine := copied(l)
		b, _ := record.Join(mine)
		other, _ := record.Join(mine)
		for _, r := range mine {
			clear(r.Body)
		}
		if !bytes.Equal(b, want) {
			t.Fatal("bytes hang on the records")
		}
		clear(b[:cap(b)])
		if !bytes.Equal(other, want) {
			t.Fatal("two answers share memory")
		}
	}
	one := []api.Record{of(0x10, 3, 1, 2, 3, 4)}
	b, _ := record.Join(one)
	clear(b[:cap(b)])
	if !alike(one, []api.Record{of(0x10, 3, 1, 2, 3, 4)}) {
		t.Fatal("the records hang on the bytes")
	}
}

// P6.4: the answers of the smaller calls are new memory too.
func TestWordsAreNew(t *testing.T) {
	b := []byte{0, 1, 0, 2, 0, 3, 0, 4}
	shorts, _ := record.Shorts(b)
	longs, _ := record.Longs(b)
	text := record.Text(b)
	clear(b)
	if !slices.Equal(shorts, []int{1, 2, 3, 4}) || !slices.Equal(longs, []int{65538, 196612}) || text != "\x00\x01\x00\x02\x00\x03\x00\x04" {
		t.Fatal(shorts, longs, text)
	}
	ns := []int{1, 2, 3}
	x, y := record.OfShorts(ns...), record.OfShorts(ns...)
	v, w := record.OfLongs(ns...), record.OfLongs(ns...)
	p, q := record.OfText("abc"), record.OfText("abc")
	for _, spoilt := range [][]byte{x, v, p} {
		clear(spoilt[:cap(spoilt)])
	}
	clear(ns)
	if !bytes.Equal(y, []byte{0, 1, 0, 2, 0, 3}) || !bytes.Equal(w, []byte{0, 0, 0, 1, 0, 0, 0, 2, 0, 0, 0, 3}) || string(q) != "abc\x00" {
		t.Fatal(y, w, q)
	}
}

// P1: every call ends, and none panics, at all arguments.
func TestAllCallsEnd(t *testing.T) {
	c := chance()
	lists := [][]byte{nil, {}, {0}, {0xff}, {0, 0}, {0, 4}, {0xff, 0xff, 0xff}, {0xff, 0xff, 0xff, 0xff}, make([]byte, 4), make([]byte, 1<<24), make([]byte, 1<<25), bytes.Repeat([]byte{0xff}, 1<<20), bytes.Repeat([]byte{4}, 1<<20)}
	for n := range 64 {
		lists = append(lists, some(c, n))
	}
	for _, b := range lists {
		record.Split(b)
		record.Shorts(b)
		record.Longs(b)
		record.Text(b)
		record.OfText(string(b))
		for kind := range 256 {
			record.Right(api.Record{Kind: byte(kind), Data: 6, Body: b})
			if r, ok := rowOf(byte(kind)); ok {
				record.Right(api.Record{Kind: byte(kind), Data: r.data, Body: b})
			}
		}
		record.Join([]api.Record{{Body: b}, {Body: b}})
	}
	record.Join(nil)
	record.Join(make([]api.Record, 1<<16))
	record.OfShorts(nil...)
	record.OfLongs(make([]int, 1<<20)...)
	record.OfShorts(math.MinInt, math.MaxInt, -1, 0)
}

// The rule on answers: the same arguments, the same answers.
func TestAskedAgain(t *testing.T) {
	for _, l := range lists() {
		b := stream(l...)
		first, n, e := record.Split(b)
		second, m, f := record.Split(b)
		if n != m || e != f || !alike(first, second) {
			t.Fatal(n, m, e, f)
		}
		for _, r := range l {
			if record.Right(r) != record.Right(r) {
				t.Fatal(r.Kind)
			}
		}
	}
}
