package gds_test

import (
	"bytes"
	"math/rand/v2"
	"slices"
	"strings"
	"testing"

	"pellicle/api"
	"pellicle/gds"
)

// The examples of the chapter.
func TestExamples(t *testing.T) {
	c := chance()
	head := fixed(c)
	end := row(c, "ENDLIB")
	b := stream(slices.Concat(head, end))
	parses(t, b, api.Lib{Head: head}, len(b))
	refuses(t, stream(slices.Concat(head[:3], end)), "without UNITS")
	for _, order := range []string{"PATHTYPE WIDTH", "WIDTH PATHTYPE"} {
		path := row(c, "PATH LAYER DATATYPE "+order+" XY")
		cell := slices.Concat(row(c, "BGNSTR STRNAME"), path, row(c, "ENDEL ENDSTR"))
		b := stream(slices.Concat(head, cell, end))
		if order == "WIDTH PATHTYPE" {
			refuses(t, b, "a WIDTH ahead of its PATHTYPE")
			continue
		}
		parses(t, b, api.Lib{Head: head, Cells: []api.Cell{{Head: cell[:2], Items: []api.Item{{Fields: path}}}}}, len(b))
	}
}

// inCell puts items into a library's one cell.
func inCell(head []api.Record, title []api.Record, l ...api.Item) api.Lib {
	return api.Lib{Head: head, Cells: []api.Cell{{Head: title, Items: l}}}
}

// P7.1, P7.2: each of the seven, with all choices of what stands in brackets, with no property, one and three.
func TestEachItem(t *testing.T) {
	c := chance()
	counts := []int{4, 64, 20, 20, 160, 4, 4}
	for i, rule := range itemRules() {
		l := rows(signs(rule))
		if len(l) != counts[i] {
			t.Fatal(rule, len(l))
		}
		for _, names := range l {
			for _, pairs := range []int{0, 1, 3} {
				x := api.Item{Fields: recs(c, names...), Props: row(c, strings.Repeat("PROPATTR PROPVALUE ", pairs))}
				rightAlone(t, slices.Concat(x.Fields, x.Props))
				both(t, inCell(fixed(c), row(c, "BGNSTR STRNAME"), x))
				both(t, inCell(fixed(c), row(c, "BGNSTR STRNAME"), anyItem(c), x, anyItem(c)))
			}
		}
	}
}

// P7.1, P7.2: all choices of what stands in brackets in the head: FORMAT with no MASK, with one, with several, and ENDMASKS.
func TestEachHead(t *testing.T) {
	c := chance()
	l := rows(signs(headRule))
	if len(l) != 512 {
		t.Fatal(len(l))
	}
	for _, names := range l {
		head := recs(c, names...)
		rightAlone(t, head)
		both(t, api.Lib{Head: head})
		both(t, inCell(head, row(c, "BGNSTR STRNAME"), anyItem(c)))
	}
}

// P7.1, P7.2: FORMAT, and what may follow it, one by one.
func TestFormats(t *testing.T) {
	c := chance()
	for masks, right := range map[string]bool{
		"":                                   true,
		"FORMAT":                             true,
		"FORMAT MASK ENDMASKS":               true,
		"FORMAT MASK MASK ENDMASKS":          true,
		"FORMAT MASK MASK MASK ENDMASKS":     true,
		"FORMAT ENDMASKS":                    false,
		"FORMAT MASK":                        false,
		"FORMAT MASK MASK":                   false,
		"FORMAT MASK ENDMASKS MASK":          false,
		"FORMAT MASK ENDMASKS ENDMASKS":      false,
		"FORMAT MASK ENDMASKS MASK ENDMASKS": false,
		"FORMAT ENDMASKS MASK":               false,
		"FORMAT FORMAT":                      false,
		"FORMAT FORMAT MASK ENDMASKS":        false,
		"MASK FORMAT ENDMASKS":               false,
		"MASK ENDMASKS":                      false,
		"MASK":                               false,
		"ENDMASKS":                           false,
		"FORMAT GENERATIONS":                 false,
		"FORMAT MASK GENERATIONS ENDMASKS":   false,
	} {
		head := row(c, "HEADER BGNLIB LIBNAME "+masks+" UNITS")
		b := stream(flat(api.Lib{Head: head}))
		if right {
			both(t, api.Lib{Head: head})
			parses(t, b, api.Lib{Head: head}, len(b))
		} else {
			isNone(t, api.Lib{Head: head}, masks)
			refuses(t, b, masks)
		}
	}
}

// P7.1, P7.2: trans, and properties, one by one.
func TestTransAndProperties(t *testing.T) {
	c := chance()
	frames := [][2]string{{"SREF SNAME ", " XY"}, {"AREF SNAME ", " COLROW XY"}, {"TEXT LAYER TEXTTYPE ", " XY STRING"}}
	for _, frame := range frames {
		for trans, right := range map[string]bool{
			"": true, "STRANS": true, "STRANS MAG": true, "STRANS ANGLE": true, "STRANS MAG ANGLE": true,
			"MAG": false, "ANGLE": false, "MAG ANGLE": false, "STRANS ANGLE MAG": false, "MAG STRANS": false,
			"STRANS STRANS": false, "STRANS MAG MAG": false, "STRANS ANGLE ANGLE": false, "MAG STRANS ANGLE": false,
		} {
			x := api.Item{Fields: row(c, frame[0]+trans+frame[1])}
			itemIs(t, x, right, frame[0]+trans)
		}
	}
	for props, right := range map[string]bool{
		"": true, "PROPATTR PROPVALUE": true, "PROPATTR PROPVALUE PROPATTR PROPVALUE": true,
		"PROPATTR": false, "PROPVALUE": false, "PROPVALUE PROPATTR": false, "PROPATTR PROPATTR PROPVALUE": false,
		"PROPATTR PROPVALUE PROPVALUE": false, "PROPATTR PROPVALUE PROPATTR": false, "PROPATTR PROPATTR": false,
		"PROPATTR PROPATTR PROPVALUE PROPVALUE": false,
	} {
		for _, rule := range itemRules() {
			itemIs(t, api.Item{Fields: anyOf(c, rule), Props: row(c, props)}, right, props)
		}
	}
}

// itemIs asks whether an item is one of a library's, in a tree and in a stream.
func itemIs(t *testing.T, x api.Item, right bool, why string) {
	t.Helper()
	c := chance()
	u := inCell(fixed(c), row(c, "BGNSTR STRNAME"), x)
	if right {
		both(t, u)
	} else {
		isNone(t, u, why)
		refuses(t, stream(flat(u)), why)
	}
}

// P7.1, P7.2: libraries of no cell, one, several; cells of no item, one, several; STRCLASS there and not.
func TestCells(t *testing.T) {
	c := chance()
	for cells := range 4 {
		for items := range 4 {
			for _, title := range []string{"BGNSTR STRNAME", "BGNSTR STRNAME STRCLASS"} {
				u := api.Lib{Head: fixed(c)}
				for range cells {
					d := api.Cell{Head: row(c, title)}
					for range items {
						d.Items = append(d.Items, anyItem(c))
					}
					u.Cells = append(u.Cells, d)
				}
				both(t, u)
			}
		}
	}
	for _, title := range []string{"", "BGNSTR", "STRNAME", "STRNAME BGNSTR", "BGNSTR STRCLASS", "BGNSTR STRCLASS STRNAME", "STRNAME STRCLASS", "BGNSTR BGNSTR STRNAME", "BGNSTR STRNAME STRNAME", "BGNSTR STRNAME STRCLASS STRCLASS", "BGNSTR SNAME"} {
		u := api.Lib{Head: fixed(c), Cells: []api.Cell{{Head: row(c, title)}}}
		isNone(t, u, title)
		refuses(t, stream(flat(u)), title)
		u.Cells[0].Items = []api.Item{anyItem(c)}
		isNone(t, u, title)
		refuses(t, stream(flat(u)), title)
	}
}

// P7.1: libraries by chance.
func TestParseAnyTree(t *testing.T) {
	c := chance()
	for range 1500 {
		u := anyTree(c)
		rightAlone(t, flat(u))
		both(t, u)
	}
	both(t, fullest(c))
	both(t, barest(c))
}

// P7.1: how many bytes the records have, whatever noughts stand behind them.
func TestNoughtsBehind(t *testing.T) {
	c := chance()
	for _, u := range []api.Lib{{Head: fixed(c)}, barest(c), fullest(c), anyTree(c)} {
		b := stream(flat(u))
		for _, n := range []int{0, 1, 2, 3, 4, 5, 2047, 2048, 1<<24 - len(b)} {
			parses(t, append(bytes.Clone(b), make([]byte, n)...), u, len(b))
		}
		refuses(t, append(bytes.Clone(b), make([]byte, 1<<24-len(b)+1)...), "more than MaxStream bytes")
		refuses(t, append(bytes.Clone(b), 0, 0, 1), "a byte behind the ENDLIB that isn't 0")
		refuses(t, append(bytes.Clone(b), 0, 4, 4, 0), "two ENDLIBs")
		refuses(t, append(bytes.Clone(b), b...), "two libraries")
	}
}

// P7.1: streams that chapter 6's Split refuses.
func TestNotSplit(t *testing.T) {
	c := chance()
	b := stream(flat(fullest(c)))
	for n := range b {
		refuses(t, b[:n], "cut short")
	}
	refuses(t, nil, "no bytes")
	refuses(t, []byte{}, "no bytes")
	at := 0
	for at < len(b) {
		for _, length := range [][2]byte{{0, 0}, {0, 2}, {0, 3}, {0xff, 0xff}, {b[at], b[at+1] ^ 1}} {
			wrong := bytes.Clone(b)
			wrong[at], wrong[at+1] = length[0], length[1]
			refuses(t, wrong, "a length that is none")
		}
		at += int(b[at])<<8 | int(b[at+1])
	}
	b[0] = 0xff
	refuses(t, b, "a first record that is too long")
}

// P7.1: a library's records with one left out, told twice, or exchanged with its neighbour are what the rules say of them.
func TestEachRecordMoved(t *testing.T) {
	c := chance()
	for _, u := range []api.Lib{fullest(c), barest(c), {Head: fixed(c)}, anyTree(c), anyTree(c), anyTree(c)} {
		l := flat(u)
		for i := range l {
			streamIs(t, slices.Delete(slices.Clone(l), i, i+1))
			streamIs(t, slices.Insert(slices.Clone(l), i, l[i]))
			if i > 0 {
				m := slices.Clone(l)
				m[i-1], m[i] = m[i], m[i-1]
				streamIs(t, m)
			}
		}
	}
}

// P7.1: the same, with a record of each kind in a record's place, and ahead of it.
func TestEachKindInEachPlace(t *testing.T) {
	c := chance()
	for _, u := range []api.Lib{fullest(c), barest(c), {Head: fixed(c)}, anyTree(c)} {
		l := flat(u)
		for i := range l {
			for name := range numbers {
				r := rec(c, name)
				m := slices.Clone(l)
				m[i] = r
				streamIs(t, m)
				streamIs(t, slices.Insert(slices.Clone(l), i, r))
			}
		}
	}
}

// streamIs holds what Parse says of right records against the rules, and tells whether they are a library.
func streamIs(t *testing.T, l []api.Record) bool {
	t.Helper()
	b := stream(l)
	if !streamFits.MatchString(kindsOf(l)) {
		refuses(t, b, "kinds "+kindsOf(l))
		return false
	}
	parses(t, b, grown(l), len(b))
	return true
}

// P7.1: rows of few kinds, of those of which libraries are made.
func TestStreamsByChance(t *testing.T) {
	c := chance()
	right := 0
	names := strings.Fields("BGNSTR STRNAME STRCLASS ENDSTR BOX LAYER BOXTYPE XY ENDEL PROPATTR PROPVALUE ENDLIB")
	for range 20000 {
		l := flat(boxes(c))
		for range c.IntN(3) {
			i := c.IntN(len(l))
			switch c.IntN(3) {
			case 0:
				l = slices.Insert(l, i, rec(c, names[c.IntN(len(names))]))
			case 1:
				l = slices.Delete(l, i, min(i+1+c.IntN(3), len(l)))
				if len(l) == 0 {
					l = flat(api.Lib{})
				}
			default:
				k := c.IntN(len(l))
				l[i], l[k] = l[k], l[i]
			}
		}
		if streamIs(t, l) {
			right++
		}
	}
	if right < 5000 || right > 15000 {
		t.Fatal(right)
	}
}

// boxes makes a small library by chance, of items of one kind.
func boxes(c *rand.Rand) api.Lib {
	u := api.Lib{Head: fixed(c)}
	for range c.IntN(3) {
		d := api.Cell{Head: anyOf(c, titleRule)}
		for range c.IntN(3) {
			d.Items = append(d.Items, api.Item{Fields: row(c, "BOX LAYER BOXTYPE XY"), Props: row(c, strings.Repeat("PROPATTR PROPVALUE ", c.IntN(3)))})
		}
		u.Cells = append(u.Cells, d)
	}
	return u
}

// P7.1: an ENDLIB ahead of its place, within a cell, within an item, with nothing behind it and with the rest.
func TestEndLibWithin(t *testing.T) {
	c := chance()
	l := flat(fullest(c))
	end := rec(c, "ENDLIB")
	for i := range l {
		refuses(t, stream(slices.Insert(slices.Clone(l), i, end)), "an ENDLIB, and more behind it")
		cut := append(slices.Clone(l[:i]), end)
		b := stream(cut)
		if i > 0 && (l[i-1].Kind == 0x03 || l[i-1].Kind == 0x07) {
			parses(t, b, grown(cut), len(b)) // behind the UNITS, or an ENDSTR, it ends a library
			continue
		}
		refuses(t, b, "an ENDLIB ahead of its place")
	}
}

// P7.1: each record of a library in turn, wrong by its Data, or by its body.
func TestRecordsThatAreNotRight(t *testing.T) {
	c := chance()
	for _, u := range []api.Lib{fullest(c), barest(c)} {
		l := flat(u)
		b := stream(l)
		parses(t, b, u, len(b))
		for i, r := range l {
			for data := range 256 {
				if byte(data) != r.Data {
					refuses(t, stream(changed(l, i, api.Record{Kind: r.Kind, Data: byte(data), Body: r.Body})), "a wrong Data")
				}
			}
			for _, body := range wrongBodies(r) {
				refuses(t, stream(changed(l, i, api.Record{Kind: r.Kind, Data: r.Data, Body: body})), "a wrong body")
			}
			refuses(t, stream(changed(l, i, api.Record{Kind: 0x14, Data: r.Data, Body: r.Body})), "a kind that is none")
			refuses(t, stream(changed(l, i, api.Record{Kind: r.Kind | 0x80, Data: r.Data, Body: r.Body})), "a kind that is none")
		}
	}
}

// changed gives the records with another one in a place.
func changed(l []api.Record, i int, r api.Record) []api.Record {
	m := slices.Clone(l)
	m[i] = r
	return m
}

// wrongBodies gives bodies of even lengths that aren't right for a record.
func wrongBodies(r api.Record) [][]byte {
	l := [][]byte{append(bytes.Clone(r.Body), make([]byte, 514)...)}
	if len(r.Body) > 0 {
		l = append(l, nil)
	}
	switch {
	case r.Kind == 0x23 || r.Kind == 0x20 || r.Kind == 0x1f || r.Data != 6 && len(r.Body) > 2:
		l = append(l, r.Body[:len(r.Body)-2])
	case r.Data == 6:
		l = append(l, append([]byte{'a', 0}, r.Body...), []byte{0, 0}, bytes.Repeat([]byte{'a'}, 514))
	}
	if r.Kind == 0x06 || r.Kind == 0x12 {
		l = append(l, []byte("a b "), []byte("a.b."), bytes.Repeat([]byte{'a'}, 34))
	}
	return l
}

// Parse of bytes by chance answers ErrStream, with nothing beside it.
func TestParseOfNoise(t *testing.T) {
	c := chance()
	for n := range 3000 {
		b := make([]byte, n%97)
		for i := range b {
			b[i] = byte(c.Uint32() & 0x0f)
		}
		refuses(t, b, "noise")
	}
	for range 3000 {
		u := anyTree(c)
		b := stream(flat(u))
		b[c.IntN(len(b))] ^= byte(1 + c.IntN(255))
		v, n, e := gds.Parse(b)
		if e != api.OK {
			refuses(t, b, "a byte that is other")
			continue
		}
		if again, e := gds.Write(v); e != api.OK || !bytes.Equal(again, b[:n]) {
			t.Fatal("what is parsed isn't written as it was", e)
		}
	}
}
