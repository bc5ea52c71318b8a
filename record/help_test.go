package record_test

import (
	"bytes"
	"math/rand/v2"
	"slices"
	"testing"

	"pellicle/api"
	"pellicle/record"
)

// chance gives numbers that look like chance, the same ones each time.
func chance() *rand.Rand { return rand.New(rand.NewPCG(2, 71828)) }

// some gives n bytes by chance.
func some(c *rand.Rand, n int) []byte {
	b := make([]byte, n)
	for i := range b {
		b[i] = byte(c.Uint32())
	}
	return b
}

// of makes a record.
func of(kind, data byte, body ...byte) api.Record {
	return api.Record{Kind: kind, Data: data, Body: body}
}

// end is an ENDLIB.
func end() api.Record { return of(0x04, 0) }

// stream lays records down by hand, as the chapter says it.
func stream(l ...api.Record) []byte {
	b := []byte{}
	for _, r := range l {
		n := len(r.Body) + 4
		b = slices.Concat(b, []byte{byte(n / 256), byte(n % 256), r.Kind, r.Data}, r.Body)
	}
	return b
}

// alike tells whether two lists have the same records, in which no body and an empty one count as the same.
func alike(a, b []api.Record) bool {
	return slices.EqualFunc(a, b, func(x, y api.Record) bool {
		return x.Kind == y.Kind && x.Data == y.Data && bytes.Equal(x.Body, y.Body)
	})
}

// copied gives the same records in new memory.
func copied(l []api.Record) []api.Record {
	var c []api.Record
	for _, r := range l {
		c = append(c, of(r.Kind, r.Data, bytes.Clone(r.Body)...))
	}
	return c
}

func short(b []byte) []byte { return b[:min(len(b), 60)] }

// splits asks for the records of a stream, how many bytes they have, and that it stays as it is.
func splits(t *testing.T, b []byte, want []api.Record, count int) {
	t.Helper()
	before := bytes.Clone(b)
	l, n, e := record.Split(b)
	if e != api.OK || n != count || !alike(l, want) {
		t.Fatalf("Split of % x: %d records, %d bytes, error %d, want %d, %d", short(b), len(l), n, e, len(want), count)
	}
	if !bytes.Equal(b, before) {
		t.Fatalf("% x became % x", short(before), short(b))
	}
}

// refuses asks for an error of a stream, and nothing beside it.
func refuses(t *testing.T, b []byte, want api.Errno) {
	t.Helper()
	l, n, e := record.Split(b)
	if e != want || n != 0 || len(l) != 0 {
		t.Fatalf("Split of % x: %d records, %d bytes, error %d, want error %d", short(b), len(l), n, e, want)
	}
}

// joins asks for the bytes of records, and that these stay as they are.
func joins(t *testing.T, l []api.Record, want []byte) {
	t.Helper()
	before := copied(l)
	b, e := record.Join(l)
	if e != api.OK || !bytes.Equal(b, want) {
		t.Fatalf("Join: % x, error %d, want % x", short(b), e, short(want))
	}
	if !alike(l, before) {
		t.Fatal("Join changed records")
	}
}
