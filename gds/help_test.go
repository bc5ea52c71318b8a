package gds_test

import (
	"bytes"
	"math/rand/v2"
	"slices"
	"strconv"
	"strings"
	"testing"

	"pellicle/api"
	"pellicle/gds"
	"pellicle/record"
)

// chance gives numbers that look like chance, the same ones each time.
func chance() *rand.Rand { return rand.New(rand.NewPCG(7, 31415)) }

// The kinds by their names, as chapter 6 lists them.
const named = `00 HEADER 0d LAYER 0e DATATYPE 16 TEXTTYPE 21 PATHTYPE 22 GENERATIONS 2a NODETYPE 2b PROPATTR 2e BOXTYPE 36 FORMAT 39 LIBDIRSIZE
01 BGNLIB 05 BGNSTR 13 COLROW 3b LIBSECUR
04 ENDLIB 07 ENDSTR 08 BOUNDARY 09 PATH 0a SREF 0b AREF 0c TEXT 11 ENDEL 15 NODE 2d BOX 38 ENDMASKS
0f WIDTH 2f PLEX 30 BGNEXTN 31 ENDEXTN 10 XY 1b MAG 1c ANGLE 03 UNITS
17 PRESENTATION 1a STRANS 26 ELFLAGS 34 STRCLASS
02 LIBNAME 19 STRING 2c PROPVALUE 37 MASK 3a SRFNAME 06 STRNAME 12 SNAME 23 ATTRTABLE 20 FONTS 1f REFLIBS`

// kindsByName reads the list of kinds.
func kindsByName() map[string]byte {
	words := strings.Fields(named)
	kinds := map[string]byte{}
	for i := 0; i < len(words); i += 2 {
		n, err := strconv.ParseUint(words[i], 16, 8)
		if err != nil {
			panic(err)
		}
		kinds[words[i+1]] = byte(n)
	}
	return kinds
}

var numbers = kindsByName()

// kindOf gives the number of a kind by its name.
func kindOf(name string) byte {
	kind, ok := numbers[name]
	if !ok {
		panic("no kind " + name)
	}
	return kind
}

// allKinds gives the numbers of all kinds, in order.
func allKinds() []byte {
	var l []byte
	for _, kind := range numbers {
		l = append(l, kind)
	}
	slices.Sort(l)
	return l
}

// form tells a kind's Data, and the numbers of bytes that its body may have (some of them, the least first).
func form(name string) (byte, []int) {
	switch name {
	case "HEADER", "LAYER", "DATATYPE", "TEXTTYPE", "PATHTYPE", "GENERATIONS", "NODETYPE", "PROPATTR", "BOXTYPE", "FORMAT", "LIBDIRSIZE":
		return 2, []int{2}
	case "BGNLIB", "BGNSTR":
		return 2, []int{24}
	case "COLROW":
		return 2, []int{4}
	case "LIBSECUR":
		return 2, []int{6, 12, 192}
	case "WIDTH", "PLEX", "BGNEXTN", "ENDEXTN":
		return 3, []int{4}
	case "XY":
		return 3, []int{8, 16, 40}
	case "MAG", "ANGLE":
		return 5, []int{8}
	case "UNITS":
		return 5, []int{16}
	case "PRESENTATION", "STRANS", "ELFLAGS", "STRCLASS":
		return 1, []int{2}
	case "LIBNAME", "STRING", "PROPVALUE", "MASK", "SRFNAME":
		return 6, []int{2, 8, 34}
	case "STRNAME", "SNAME":
		return 6, []int{2, 6, 32}
	case "ATTRTABLE":
		return 6, []int{44}
	case "FONTS":
		return 6, []int{176}
	case "REFLIBS":
		return 6, []int{44, 88}
	}
	return 0, []int{0}
}

// body gives n bytes by chance; of a text they are letters, and perhaps a 0 at the end.
func body(c *rand.Rand, name string, n int) []byte {
	b := make([]byte, n)
	data, _ := form(name)
	for i := range b {
		b[i] = byte(c.Uint32())
		if data == 6 {
			b[i] = "abcXYZ019_?$"[c.IntN(12)]
		}
	}
	if data == 6 && c.IntN(2) == 0 {
		b[n-1] = 0
	}
	return b
}

// rec makes a right record of a kind.
func rec(c *rand.Rand, name string) api.Record {
	data, sizes := form(name)
	return api.Record{Kind: kindOf(name), Data: data, Body: body(c, name, sizes[c.IntN(len(sizes))])}
}

// recs makes right records of kinds.
func recs(c *rand.Rand, names ...string) []api.Record {
	var l []api.Record
	for _, name := range names {
		l = append(l, rec(c, name))
	}
	return l
}

// row makes right records of kinds, whose names stand in one text.
func row(c *rand.Rand, names string) []api.Record { return recs(c, strings.Fields(names)...) }

// stream lays records down by hand, as chapter 6 says it.
func stream(l []api.Record) []byte {
	b := []byte{}
	for _, r := range l {
		n := len(r.Body) + 4
		b = append(append(b, byte(n/256), byte(n%256), r.Kind, r.Data), r.Body...)
	}
	return b
}

// flat gives a tree's records in order, with the ends that it leaves out.
func flat(t api.Lib) []api.Record {
	l := slices.Clone(t.Head)
	for _, c := range t.Cells {
		l = append(l, c.Head...)
		for _, x := range c.Items {
			l = append(append(append(l, x.Fields...), x.Props...), api.Record{Kind: 0x11})
		}
		l = append(l, api.Record{Kind: 0x07})
	}
	return append(l, api.Record{Kind: 0x04})
}

// copied gives the same records in new memory.
func copied(l []api.Record) []api.Record {
	var c []api.Record
	for _, r := range l {
		c = append(c, api.Record{Kind: r.Kind, Data: r.Data, Body: bytes.Clone(r.Body)})
	}
	return c
}

// copiedTree gives the same tree in new memory.
func copiedTree(t api.Lib) api.Lib {
	u := api.Lib{Head: copied(t.Head)}
	for _, c := range t.Cells {
		d := api.Cell{Head: copied(c.Head)}
		for _, x := range c.Items {
			d.Items = append(d.Items, api.Item{Fields: copied(x.Fields), Props: copied(x.Props)})
		}
		u.Cells = append(u.Cells, d)
	}
	return u
}

// alike tells whether two lists have the same records, in which no body and an empty one count as the same.
func alike(a, b []api.Record) bool {
	return slices.EqualFunc(a, b, func(x, y api.Record) bool {
		return x.Kind == y.Kind && x.Data == y.Data && bytes.Equal(x.Body, y.Body)
	})
}

// alikeTree tells whether two trees are the same.
func alikeTree(t, u api.Lib) bool {
	return alike(t.Head, u.Head) && slices.EqualFunc(t.Cells, u.Cells, func(c, d api.Cell) bool {
		return alike(c.Head, d.Head) && slices.EqualFunc(c.Items, d.Items, func(x, y api.Item) bool {
			return alike(x.Fields, y.Fields) && alike(x.Props, y.Props)
		})
	})
}

// kindsOf tells records by their kinds, two signs of base 16 each.
func kindsOf(l []api.Record) string {
	var s strings.Builder
	for _, r := range l {
		s.WriteString(hex(r.Kind))
	}
	return s.String()
}

// hex gives a kind by two signs of base 16.
func hex(kind byte) string {
	const signs = "0123456789abcdef"
	return string([]byte{signs[kind>>4], signs[kind&15]})
}

// short gives the first bytes of a stream, for a message.
func short(b []byte) []byte { return b[:min(len(b), 60)] }

// parses asks that a stream is parsed as a tree, with so many bytes, and that it stays as it is.
func parses(t *testing.T, b []byte, want api.Lib, count int) {
	t.Helper()
	before := bytes.Clone(b)
	u, n, e := gds.Parse(b)
	if e != api.OK || n != count || !alikeTree(u, want) {
		t.Fatalf("Parse of % x: kinds %s, %d bytes, error %d, want kinds %s, %d bytes", short(b), kindsOf(flat(u)), n, e, kindsOf(flat(want)), count)
	}
	if !bytes.Equal(b, before) {
		t.Fatalf("% x became % x", short(before), short(b))
	}
}

// refuses asks that a stream is ErrStream, and that nothing stands beside it.
func refuses(t *testing.T, b []byte, why string) {
	t.Helper()
	u, n, e := gds.Parse(b)
	if e != api.ErrStream || n != 0 || len(u.Head) != 0 || len(u.Cells) != 0 {
		t.Fatalf("Parse of % x: %d cells, %d bytes, error %d, want ErrStream: %s", short(b), len(u.Cells), n, e, why)
	}
}

// writes asks that a tree is a library's, that it is written as its records' bytes, and that it stays as it is.
func writes(t *testing.T, u api.Lib) []byte {
	t.Helper()
	before := copiedTree(u)
	want := stream(flat(u))
	b, e := gds.Write(u)
	if e != api.OK || !bytes.Equal(b, want) {
		t.Fatalf("Write of kinds %s: % x, error %d, want % x", kindsOf(flat(u)), short(b), e, short(want))
	}
	if !gds.Valid(u) {
		t.Fatalf("Valid of kinds %s: false", kindsOf(flat(u)))
	}
	if !alikeTree(u, before) {
		t.Fatal("a tree was changed")
	}
	return b
}

// isNone asks that a tree is no library's.
func isNone(t *testing.T, u api.Lib, why string) {
	t.Helper()
	before := copiedTree(u)
	if gds.Valid(u) {
		t.Fatalf("Valid of kinds %s: true, want false: %s", kindsOf(flat(u)), why)
	}
	if b, e := gds.Write(u); e != api.ErrForm || len(b) != 0 {
		t.Fatalf("Write of kinds %s: %d bytes, error %d, want ErrForm: %s", kindsOf(flat(u)), len(b), e, why)
	}
	if !alikeTree(u, before) {
		t.Fatal("a tree was changed")
	}
}

// both asks that a tree is written, and what is written is parsed as that tree.
func both(t *testing.T, u api.Lib) {
	t.Helper()
	b := writes(t, u)
	parses(t, b, u, len(b))
}

// rightAlone asks chapter 6 for what these tests make of it.
func rightAlone(t *testing.T, l []api.Record) {
	t.Helper()
	for _, r := range l {
		if !record.Right(r) {
			t.Fatalf("kind %02x, Data %d, % x isn't right", r.Kind, r.Data, short(r.Body))
		}
	}
}
