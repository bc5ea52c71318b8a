package gds_test

import (
	"bytes"
	"slices"
	"testing"

	"pellicle/api"
	"pellicle/gds"
)

// P7.4: what is parsed, written again, is the very bytes that were counted.
func TestParsedAndWritten(t *testing.T) {
	c := chance()
	for range 500 {
		b := stream(flat(anyTree(c)))
		long := append(bytes.Clone(b), make([]byte, c.IntN(5))...)
		u, n, e := gds.Parse(long)
		if e != api.OK || n != len(b) {
			t.Fatal(n, e)
		}
		if again := writes(t, u); !bytes.Equal(again, long[:n]) {
			t.Fatalf("% x, want % x", short(again), short(b))
		}
	}
}

// P7.4: what is written is parsed as the tree that it was.
func TestWrittenAndParsed(t *testing.T) {
	c := chance()
	for range 500 {
		u := anyTree(c)
		b, e := gds.Write(u)
		if e != api.OK {
			t.Fatal(e)
		}
		parses(t, b, u, len(b))
		parses(t, append(b, 0, 0, 0), u, len(b))
	}
}

// spoilt changes all bytes of all records, and what room stands behind the lists' and the bodies' ends.
func spoilt(u api.Lib) {
	bad := api.Record{Kind: 0xee, Data: 0xee, Body: []byte{0xee}}
	spoil := func(l []api.Record) {
		for _, r := range l {
			whole := r.Body[:cap(r.Body)]
			for i := range whole {
				whole[i] ^= 0xff
			}
		}
		all := l[:cap(l)]
		for i := range all {
			all[i] = bad
		}
	}
	for i := range u.Cells {
		for k := range u.Cells[i].Items {
			spoil(u.Cells[i].Items[k].Fields)
			spoil(u.Cells[i].Items[k].Props)
		}
		spoil(u.Cells[i].Head)
		items := u.Cells[i].Items
		clear(items[:cap(items)])
	}
	spoil(u.Head)
	clear(u.Cells[:cap(u.Cells)])
}

// P7.5: what was parsed stays when the stream does not, nor another answer; the room behind the stream stays.
func TestParsedIsNew(t *testing.T) {
	c := chance()
	for range 100 {
		u := anyTree(c)
		room := append(stream(flat(u)), 0, 0, 7, 8, 9)
		b := room[:len(room)-3]
		before := bytes.Clone(room)
		first, _, _ := gds.Parse(b)
		second, _, _ := gds.Parse(b)
		spoilt(first)
		if !bytes.Equal(room, before) {
			t.Fatal("a stream hangs on its tree, or was changed")
		}
		clear(room)
		if !alikeTree(second, u) {
			t.Fatal("a tree hangs on its stream, or on another one")
		}
	}
}

// P7.5: no two lists of one tree, and no two bodies, share memory: the first is spoilt, with all its room, and the others stay.
func TestListsShareNothing(t *testing.T) {
	c := chance()
	u := fullest(c)
	b := stream(flat(u))
	for i := range lists(&u) {
		got, _, e := gds.Parse(b)
		if e != api.OK {
			t.Fatal(e)
		}
		want := copiedTree(got)
		spoilt(api.Lib{Head: *lists(&got)[i]})
		*lists(&got)[i], *lists(&want)[i] = nil, nil
		if !alikeTree(got, want) {
			t.Fatal("two lists share memory")
		}
	}
	got, _, _ := gds.Parse(b)
	want := copiedTree(got)
	for i, l := range flat(got) {
		whole := l.Body[:cap(l.Body)]
		for k := range whole {
			whole[k] ^= 0xff
		}
		others := slices.Delete(flat(got), i, i+1)
		if !alike(others, slices.Delete(flat(want), i, i+1)) {
			t.Fatal("two bodies share memory")
		}
		for k := range whole {
			whole[k] ^= 0xff
		}
	}
	for i := range got.Cells {
		grown := append(got.Cells[i].Items, api.Item{})
		clear(grown[:cap(grown)][len(grown)-1:])
	}
	if !alikeTree(got, want) {
		t.Fatal("two cells' items share memory")
	}
}

// P7.5: Valid and Write change nothing of a tree, nor the room behind its lists; what is written is new memory.
func TestWrittenIsNew(t *testing.T) {
	c := chance()
	for range 100 {
		u := anyTree(c)
		want := stream(flat(u))
		for _, l := range lists(&u) {
			*l = append(*l, api.Record{Kind: 0x77, Data: 7, Body: []byte{7}})[:len(*l)]
		}
		before := copiedTree(u)
		first, _ := gds.Write(u)
		second, _ := gds.Write(u)
		gds.Valid(u)
		clear(first[:cap(first)])
		if !alikeTree(u, before) {
			t.Fatal("a tree hangs on its bytes, or was changed")
		}
		for _, l := range lists(&u) {
			if behind := (*l)[:len(*l)+1][len(*l)]; behind.Kind != 0x77 || behind.Data != 7 || len(behind.Body) != 1 || behind.Body[0] != 7 {
				t.Fatal("the room behind a list was changed")
			}
		}
		spoilt(u)
		if !bytes.Equal(second, want) {
			t.Fatal("bytes hang on their tree, or on other ones")
		}
	}
}

// P1: every call ends, and none panics, at all arguments.
func TestAllCallsEnd(t *testing.T) {
	c := chance()
	streams := [][]byte{nil, {}, {0}, {0, 4, 4, 0}, {0, 4, 4, 0, 0}, bytes.Repeat([]byte{0, 4, 0x11, 0}, 1<<22), make([]byte, 1<<24), make([]byte, 1<<25), bytes.Repeat([]byte{0xff}, 1<<20)}
	for _, b := range streams {
		gds.Parse(b)
	}
	odd := func() api.Record {
		return api.Record{Kind: byte(c.Uint32()) & 0x3f, Data: byte(c.IntN(7)), Body: make([]byte, c.IntN(40))}
	}
	some := func() []api.Record {
		var l []api.Record
		for range c.IntN(6) {
			l = append(l, odd())
		}
		return l
	}
	for range 2000 {
		x := api.Item{Fields: some(), Props: some()}
		d := api.Cell{Head: some(), Items: []api.Item{x, {}}}
		for _, u := range []api.Lib{{Head: some(), Cells: []api.Cell{d, {}}}, {Head: fixed(c), Cells: []api.Cell{d}}, inCell(fixed(c), row(c, "BGNSTR STRNAME"), x)} {
			gds.Valid(u)
			gds.Write(u)
		}
		gds.Field(x, byte(c.Uint32()))
		gds.Name(d)
	}
	u := api.Lib{Head: make([]api.Record, 1<<20), Cells: make([]api.Cell, 1<<20)}
	gds.Valid(u)
	gds.Write(u)
	u = inCell(fixed(c), row(c, "BGNSTR STRNAME"), make([]api.Item, 1<<20)...)
	gds.Valid(u)
	gds.Write(u)
	gds.Field(api.Item{Fields: make([]api.Record, 1<<20)}, 1)
	gds.Name(api.Cell{Head: make([]api.Record, 1<<20)})
	gds.Name(api.Cell{Head: []api.Record{{Kind: 0x06, Body: make([]byte, 1<<20)}}})
}

// The rule on answers: the same arguments, the same answers.
func TestAskedAgain(t *testing.T) {
	c := chance()
	for range 200 {
		u := anyTree(c)
		b, e := gds.Write(u)
		d, f := gds.Write(u)
		if e != f || !bytes.Equal(b, d) || gds.Valid(u) != gds.Valid(u) {
			t.Fatal(e, f)
		}
		v, n, e := gds.Parse(b)
		w, m, f := gds.Parse(b)
		if n != m || e != f || !alikeTree(v, w) {
			t.Fatal(n, m, e, f)
		}
	}
}
