package gds_test

import (
	"bytes"
	"slices"
	"testing"

	"pellicle/api"
	"pellicle/gds"
)

// field asks for an item's record of a kind.
func field(t *testing.T, x api.Item, kind byte, want api.Record, found bool) {
	t.Helper()
	r, ok := gds.Field(x, kind)
	if ok != found || !alike([]api.Record{r}, []api.Record{want}) {
		t.Fatalf("Field %02x: kind %02x, Data %d, % x, %t, want kind %02x, Data %d, % x, %t", kind, r.Kind, r.Data, short(r.Body), ok, want.Kind, want.Data, short(want.Body), found)
	}
}

// P7.3: each record of items of the seven, and kinds that aren't there.
func TestFieldOfEachKind(t *testing.T) {
	c := chance()
	for range 50 {
		for _, rule := range itemRules() {
			x := api.Item{Fields: anyOf(c, rule), Props: row(c, "PROPATTR PROPVALUE")}
			for kind := range 256 {
				i := slices.IndexFunc(x.Fields, func(r api.Record) bool { return r.Kind == byte(kind) })
				if i < 0 {
					field(t, x, byte(kind), api.Record{}, false)
				} else {
					field(t, x, byte(kind), x.Fields[i], true)
				}
			}
		}
	}
}

// P7.3: of several the first one; whatever else the item is.
func TestFieldIsTheFirst(t *testing.T) {
	c := chance()
	a, b := rec(c, "WIDTH"), rec(c, "WIDTH")
	a.Body, b.Body = []byte{1, 2, 3, 4}, []byte{5, 6, 7, 8}
	other := rec(c, "LAYER")
	field(t, api.Item{Fields: []api.Record{a, b}}, 0x0f, a, true)
	field(t, api.Item{Fields: []api.Record{b, a}}, 0x0f, b, true)
	field(t, api.Item{Fields: []api.Record{other, a, other, b}}, 0x0f, a, true)
	field(t, api.Item{Fields: []api.Record{other, b, a, a}}, 0x0f, b, true)
	wrong := api.Record{Kind: 0x0f, Data: 77, Body: []byte{1, 2, 3}}
	field(t, api.Item{Fields: []api.Record{wrong, a}}, 0x0f, wrong, true)
	field(t, api.Item{Fields: []api.Record{{Kind: 0x0f}, a}}, 0x0f, api.Record{Kind: 0x0f}, true)
	field(t, api.Item{Fields: []api.Record{{Kind: 0xff, Data: 1, Body: []byte{9}}, a}}, 0xff, api.Record{Kind: 0xff, Data: 1, Body: []byte{9}}, true)
}

// P7.3: an item's properties aren't its Fields; an item without Fields has none.
func TestFieldIsNoProperty(t *testing.T) {
	c := chance()
	x := api.Item{Props: row(c, "PROPATTR PROPVALUE WIDTH HEADER")}
	for kind := range 256 {
		field(t, x, byte(kind), api.Record{}, false)
		field(t, api.Item{}, byte(kind), api.Record{}, false)
		field(t, api.Item{Fields: []api.Record{}, Props: []api.Record{}}, byte(kind), api.Record{}, false)
	}
}

// P7.3: a cell's name: with a 0 at the end of its STRNAME, and without; the first of several; of none empty.
func TestName(t *testing.T) {
	name := func(body string) api.Record { return api.Record{Kind: 0x06, Data: 6, Body: []byte(body)} }
	begin := api.Record{Kind: 0x05, Data: 2, Body: make([]byte, 24)}
	class := api.Record{Kind: 0x34, Data: 1, Body: []byte("cc")}
	inside := []api.Item{{Fields: []api.Record{name("no")}, Props: []api.Record{name("no")}}}
	for want, l := range map[string][]api.Record{
		"TOP":                  {begin, name("TOP\x00")},
		"TOPS":                 {begin, name("TOPS"), class},
		"a":                    {name("a\x00"), name("b\x00")},
		"b":                    {class, begin, name("b\x00"), begin, name("a\x00")},
		"_?$":                  {name("_?$")},
		"x\x00":                {name("x\x00\x00"), name("y")},
		"\x00z":                {name("\x00z")},
		"any text, even \xff.": {{Kind: 0x06, Data: 3, Body: []byte("any text, even \xff.")}},
	} {
		if got := gds.Name(api.Cell{Head: l, Items: inside}); got != want {
			t.Fatalf("%q, want %q", got, want)
		}
	}
	for _, l := range [][]api.Record{nil, {}, {begin}, {begin, class}, {{Kind: 0x12, Data: 6, Body: []byte("sn")}, {Kind: 0x02, Data: 6, Body: []byte("li")}}, {name(""), name("second")}, {name("\x00"), name("second")}} {
		if got := gds.Name(api.Cell{Head: l, Items: inside}); got != "" {
			t.Fatalf("%q of %s, want nothing", got, kindsOf(l))
		}
	}
}

// P7.5: what Field answers is new memory; neither call changes what it is given, nor the room behind it.
func TestFieldAndNameAreNew(t *testing.T) {
	room := []byte{1, 2, 3, 4, 5, 6, 7, 8}
	l := []api.Record{{Kind: 0x0f, Data: 3, Body: room[:4]}, {Kind: 0x10, Data: 3, Body: room[4:]}}
	x := api.Item{Fields: l[:1]}
	r, _ := gds.Field(x, 0x0f)
	s, _ := gds.Field(x, 0x0f)
	if _, ok := gds.Field(x, 0x10); ok {
		t.Fatal("a record behind the list's end")
	}
	clear(append(r.Body, 9, 9, 9, 9))
	clear(r.Body)
	if !bytes.Equal(room, []byte{1, 2, 3, 4, 5, 6, 7, 8}) || !bytes.Equal(s.Body, []byte{1, 2, 3, 4}) || l[1].Kind != 0x10 {
		t.Fatal(room, s, l)
	}
	clear(room)
	if !bytes.Equal(s.Body, []byte{1, 2, 3, 4}) {
		t.Fatal("an answer hangs on what was handed in")
	}
	body := []byte("TOP\x00")
	c := api.Cell{Head: []api.Record{{Kind: 0x06, Data: 6, Body: body}}}
	name := gds.Name(c)
	clear(body)
	if name != "TOP" {
		t.Fatal(name)
	}
}
