package gds_test

import (
	"bytes"
	"math/rand/v2"
	"slices"
	"testing"

	"pellicle/api"
	"pellicle/gds"
)

// lists gives the lists of records of a tree, to be changed where they stand.
func lists(u *api.Lib) []*[]api.Record {
	l := []*[]api.Record{&u.Head}
	for i := range u.Cells {
		c := &u.Cells[i]
		l = append(l, &c.Head)
		for k := range c.Items {
			l = append(l, &c.Items[k].Fields, &c.Items[k].Props)
		}
	}
	return l
}

// treeIs holds what Valid and Write say of a tree of right records against the rules.
func treeIs(t *testing.T, u api.Lib) {
	t.Helper()
	if treeFits(u) {
		both(t, u)
	} else {
		isNone(t, u, "its lists aren't as the rules have them")
	}
}

// P7.2: trees by chance, and the same with nil lists and with empty ones.
func TestWriteAnyTree(t *testing.T) {
	c := chance()
	for range 500 {
		u := anyTree(c)
		for _, l := range lists(&u) {
			if len(*l) == 0 {
				*l = []api.Record{}
			}
			for i := range *l {
				if len((*l)[i].Body) == 0 {
					(*l)[i].Body = nil
				}
			}
		}
		both(t, u)
		if len(u.Cells) == 0 {
			u.Cells = []api.Cell{}
		}
		for i := range u.Cells {
			if len(u.Cells[i].Items) == 0 {
				u.Cells[i].Items = []api.Item{}
			}
		}
		both(t, u)
	}
}

// P7.2: a tree without records is none; a library needs its head.
func TestEmptyTrees(t *testing.T) {
	c := chance()
	isNone(t, api.Lib{}, "no head")
	isNone(t, api.Lib{Head: []api.Record{}, Cells: []api.Cell{}}, "no head")
	isNone(t, api.Lib{Head: fixed(c), Cells: make([]api.Cell, 1)}, "a cell without records")
	isNone(t, api.Lib{Cells: barest(c).Cells}, "no head")
	u := barest(c)
	u.Cells = append(u.Cells, api.Cell{})
	isNone(t, u, "a cell without records, behind others")
	u = barest(c)
	u.Cells[0].Items = append(u.Cells[0].Items, api.Item{})
	isNone(t, u, "an item without records")
	u.Cells[0].Items[7].Props = row(c, "PROPATTR PROPVALUE")
	isNone(t, u, "an item of properties alone")
	u.Cells[0].Items = slices.Insert(u.Cells[0].Items[:7], 0, api.Item{})
	isNone(t, u, "an item without records, ahead of others")
}

// P7.2: each record of a tree in turn left out, told twice, exchanged with its neighbour.
func TestEachRecordOfATreeMoved(t *testing.T) {
	c := chance()
	for _, u := range []api.Lib{fullest(c), barest(c), {Head: fixed(c)}, anyTree(c), anyTree(c)} {
		for _, l := range lists(&u) {
			before := *l
			for i := range before {
				*l = slices.Delete(slices.Clone(before), i, i+1)
				treeIs(t, u)
				*l = slices.Insert(slices.Clone(before), i, before[i])
				treeIs(t, u)
				if i > 0 {
					*l = slices.Clone(before)
					(*l)[i-1], (*l)[i] = before[i], before[i-1]
					treeIs(t, u)
				}
			}
			*l = before
		}
		both(t, u)
	}
}

// P7.2: a record of each kind, an ENDSTR, an ENDEL and an ENDLIB among them, in each place of a tree and ahead of it.
func TestEachKindInATree(t *testing.T) {
	c := chance()
	for _, u := range []api.Lib{fullest(c), barest(c), {Head: fixed(c)}} {
		for _, l := range lists(&u) {
			before := *l
			for i := range len(before) + 1 {
				for name := range numbers {
					r := rec(c, name)
					*l = slices.Insert(slices.Clone(before), i, r)
					treeIs(t, u)
					if i < len(before) {
						*l = changed(before, i, r)
						treeIs(t, u)
					}
				}
			}
			*l = before
		}
	}
}

// P7.2: no list of a tree may have an ENDSTR, an ENDEL or an ENDLIB, in none of its places.
func TestEndsInATree(t *testing.T) {
	c := chance()
	u := fullest(c)
	for _, l := range lists(&u) {
		before := *l
		for i := range len(before) + 1 {
			for _, name := range []string{"ENDSTR", "ENDEL", "ENDLIB"} {
				*l = slices.Insert(slices.Clone(before), i, rec(c, name))
				isNone(t, u, name)
			}
		}
		*l = before
	}
	both(t, u)
}

// P7.2: records that would be a library one behind the other are none, if they stand in the wrong lists.
func TestRecordsInTheWrongLists(t *testing.T) {
	c := chance()
	good := func() api.Lib {
		x := api.Item{Fields: row(c, "BOX LAYER BOXTYPE XY"), Props: row(c, "PROPATTR PROPVALUE PROPATTR PROPVALUE")}
		d := api.Cell{Head: row(c, "BGNSTR STRNAME STRCLASS"), Items: []api.Item{x}}
		return api.Lib{Head: fixed(c), Cells: []api.Cell{d}}
	}
	u := good()
	both(t, u)
	l := lists(&u)
	for i, list := range l {
		for n := range len(*list) + 1 {
			if i > 0 && n > 0 { // the first n go to the list ahead
				u, v := good(), good()
				l, m := lists(&u), lists(&v)
				*l[i-1] = slices.Concat(*m[i-1], (*m[i])[:n])
				*l[i] = (*m[i])[n:]
				isNone(t, u, "records in the list ahead")
			}
			if i < len(l)-1 && n < len(*list) { // the last ones go to the list behind
				u, v := good(), good()
				l, m := lists(&u), lists(&v)
				*l[i+1] = slices.Concat((*m[i])[n:], *m[i+1])
				*l[i] = (*m[i])[:n]
				isNone(t, u, "records in the list behind")
			}
		}
	}
}

// P7.2: two items, two cells, two libraries in one list are none.
func TestTwoInOneList(t *testing.T) {
	c := chance()
	box := row(c, "BOX LAYER BOXTYPE XY")
	title := row(c, "BGNSTR STRNAME")
	isNone(t, inCell(fixed(c), title, api.Item{Fields: slices.Concat(box, box)}), "two items")
	isNone(t, inCell(fixed(c), title, api.Item{Fields: slices.Concat(box, row(c, "ENDEL"), box)}), "two items")
	isNone(t, inCell(fixed(c), title, api.Item{Fields: slices.Concat(box, row(c, "ENDEL ENDSTR"), title)}), "an item, and a cell")
	isNone(t, api.Lib{Head: fixed(c), Cells: []api.Cell{{Head: slices.Concat(title, title)}}}, "two cells")
	isNone(t, api.Lib{Head: fixed(c), Cells: []api.Cell{{Head: slices.Concat(title, row(c, "ENDSTR"), title)}}}, "two cells")
	isNone(t, api.Lib{Head: fixed(c), Cells: []api.Cell{{Head: slices.Concat(title, box, row(c, "ENDEL"))}}}, "a cell with an item in its head")
	isNone(t, api.Lib{Head: slices.Concat(fixed(c), fixed(c))}, "two heads")
	isNone(t, api.Lib{Head: slices.Concat(fixed(c), title, row(c, "ENDSTR"))}, "a cell in the head")
	isNone(t, api.Lib{Head: slices.Concat(fixed(c), row(c, "ENDLIB"))}, "an ENDLIB in the head")
}

// P7.2: items that begin with none of the seven.
func TestItemsOfNone(t *testing.T) {
	c := chance()
	for name, kind := range numbers {
		for _, rule := range itemRules() {
			l := anyOf(c, rule)
			if kind != l[0].Kind {
				l[0] = rec(c, name)
				treeIs(t, inCell(fixed(c), row(c, "BGNSTR STRNAME"), api.Item{Fields: l}))
			}
			treeIs(t, inCell(fixed(c), row(c, "BGNSTR STRNAME"), api.Item{Fields: l[1:]}))
		}
		isNone(t, inCell(fixed(c), row(c, "BGNSTR STRNAME"), api.Item{Fields: row(c, name)}), name)
	}
}

// P7.2: each record of a tree in turn, wrong by its Data, or by its body.
func TestTreesThatAreNotRight(t *testing.T) {
	c := chance()
	for _, u := range []api.Lib{fullest(c), barest(c)} {
		for _, l := range lists(&u) {
			for i, r := range *l {
				wrong := func(w api.Record) {
					t.Helper()
					(*l)[i] = w
					isNone(t, u, "a record that isn't right")
				}
				for data := range 256 {
					if byte(data) != r.Data {
						wrong(api.Record{Kind: r.Kind, Data: byte(data), Body: r.Body})
					}
				}
				for _, body := range append(wrongBodies(r), append([]byte{'a'}, r.Body...), make([]byte, 1<<16), make([]byte, 1<<17)) {
					wrong(api.Record{Kind: r.Kind, Data: r.Data, Body: body})
				}
				wrong(api.Record{Kind: 0x14, Data: r.Data, Body: r.Body})
				wrong(api.Record{Kind: r.Kind | 0x80, Data: r.Data, Body: r.Body})
				(*l)[i] = r
			}
		}
		both(t, u)
	}
}

// sized makes a library of which the bytes are n, n even, from 2^10 on: boundaries with one body as long as may be, and properties of a box.
func sized(c *rand.Rand, n int) api.Lib {
	box := api.Item{Fields: row(c, "BOX LAYER BOXTYPE XY")}
	long := api.Item{Fields: append(row(c, "BOUNDARY LAYER DATATYPE"), api.Record{Kind: 0x10, Data: 3, Body: make([]byte, 65528)})}
	u := inCell(fixed(c), row(c, "BGNSTR STRNAME"), box)
	items := u.Cells[0].Items
	left := n - len(stream(flat(u)))
	for size := len(stream(long.Fields)) + 4; left > size+12; left -= size {
		items = append(items, long)
	}
	for left > 0 {
		pair := min(left, 6+4+512)
		if left > pair {
			pair = min(pair, left-12) // so that another one can follow
		}
		left -= pair
		items[0].Props = append(items[0].Props, api.Record{Kind: 0x2b, Data: 2, Body: []byte{0, 1}}, api.Record{Kind: 0x2c, Data: 6, Body: bytes.Repeat([]byte("a"), pair-10)})
	}
	u.Cells[0].Items = items
	return u
}

// isLong asks that a tree is a library's, and has more bytes than a stream may have.
func isLong(t *testing.T, u api.Lib) {
	t.Helper()
	if !gds.Valid(u) {
		t.Fatal("Valid of a long library: false")
	}
	if b, e := gds.Write(u); e != api.ErrLong || len(b) != 0 {
		t.Fatalf("Write of a long library: %d bytes, error %d, want ErrLong", len(b), e)
	}
}

// P7.2: libraries of MaxStream bytes are written, those of more are ErrLong; if they aren't libraries either, they are ErrForm.
func TestTheLongest(t *testing.T) {
	c := chance()
	for _, n := range []int{1 << 10, 1 << 17, 1<<24 - 2, 1 << 24} {
		u := sized(c, n)
		b := writes(t, u)
		if len(b) != n {
			t.Fatal(len(b), n)
		}
		parses(t, b, u, n)
	}
	for _, n := range []int{1<<24 + 2, 1<<24 + 4, 1<<24 + 1000, 1 << 25} {
		u := sized(c, n)
		if m := len(stream(flat(u))); m != n {
			t.Fatal(m, n)
		}
		isLong(t, u)
		refuses(t, stream(flat(u)), "more than MaxStream bytes")
		box := &u.Cells[0].Items[0]
		box.Props = box.Props[:len(box.Props)-1]
		isNone(t, u, "a PROPATTR without its PROPVALUE, and too many bytes")
	}
}

// P7.2: trees of far more bytes than there are in memory: the lists stand in them many times.
func TestFarTooLong(t *testing.T) {
	c := chance()
	u := sized(c, 1<<24+2)
	d := u.Cells[0]
	u.Cells = nil
	for range 100 {
		u.Cells = append(u.Cells, d)
	}
	isLong(t, u)
	u.Cells = append(u.Cells, api.Cell{})
	if b, e := gds.Write(u); gds.Valid(u) || e != api.ErrForm || len(b) != 0 {
		t.Fatal(len(b), e)
	}
}

// P7.1, P7.2: as many records as may be: cells without items, items without properties.
func TestTheMost(t *testing.T) {
	c := chance()
	cell := api.Cell{Head: []api.Record{{Kind: 0x05, Data: 2, Body: make([]byte, 24)}, {Kind: 0x06, Data: 6, Body: []byte("ab")}}}
	u := api.Lib{Head: fixed(c)}
	n := len(stream(flat(u)))
	for ; n+38 <= 1<<24; n += 38 {
		u.Cells = append(u.Cells, cell)
	}
	b := writes(t, u)
	if len(b) != n {
		t.Fatal(len(b), n)
	}
	parses(t, b, u, n)
	u.Cells = append(u.Cells, cell)
	isLong(t, u)
}
