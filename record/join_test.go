package record_test

import (
	"bytes"
	"testing"

	"pellicle/api"
	"pellicle/record"
)

// P6.2: the records' bytes, one behind the other, whatever kinds they are of.
func TestJoin(t *testing.T) {
	joins(t, []api.Record{of(0x00, 2, 0x02, 0x58), end()}, []byte{0x00, 0x06, 0x00, 0x02, 0x02, 0x58, 0x00, 0x04, 0x04, 0x00})
	joins(t, nil, nil)
	joins(t, []api.Record{}, nil)
	joins(t, []api.Record{{}}, []byte{0, 4, 0, 0})
	joins(t, []api.Record{end(), end(), of(0xff, 0xfe, 0xfd, 0xfc)}, []byte{0, 4, 4, 0, 0, 4, 4, 0, 0, 6, 0xff, 0xfe, 0xfd, 0xfc})
	c := chance()
	var l []api.Record
	for kind := range 256 {
		l = append(l, of(byte(kind), byte(c.Uint32()), some(c, 2*c.IntN(300))...))
		joins(t, l, stream(l...))
	}
}

// P6.2: bodies of each even number of bytes, to MaxBody; others are ErrForm.
func TestJoinSizes(t *testing.T) {
	fill := some(chance(), 70000)
	for n := range 66000 {
		r := api.Record{Kind: 0x10, Data: 3, Body: fill[:n]}
		b, e := record.Join([]api.Record{r})
		if n%2 != 0 || n > 65530 {
			if e != api.ErrForm || len(b) != 0 {
				t.Fatal(n, len(b), e)
			}
			continue
		}
		if e != api.OK || len(b) != n+4 || int(b[0])*256+int(b[1]) != n+4 || b[2] != 0x10 || b[3] != 3 || !bytes.Equal(b[4:], fill[:n]) {
			t.Fatal(n, len(b), e)
		}
	}
}

// P6.2: one wrong body among others, at any place, is ErrForm, and nothing is told beside it.
func TestJoinWrong(t *testing.T) {
	good := of(0x0d, 2, 0, 1)
	for _, n := range []int{1, 3, 511, 65529, 65531, 65532, 65534, 65536, 65537, 131072 + 2, 1 << 20} {
		for place := range 4 {
			l := []api.Record{good, good, good, end()}
			l[place].Body = make([]byte, n)
			if b, e := record.Join(l); e != api.ErrForm || len(b) != 0 {
				t.Fatal(n, place, len(b), e)
			}
		}
	}
}

// P6.2: Join has no greatest number of bytes, though Split has.
func TestJoinLong(t *testing.T) {
	body := make([]byte, 65530)
	var l []api.Record
	for range 300 {
		l = append(l, of(0x10, 3, body...))
	}
	l = append(l, end())
	b, e := record.Join(l)
	if e != api.OK || len(b) != 300*65534+4 || len(b) <= api.MaxStream {
		t.Fatal(len(b), e)
	}
	refuses(t, b, api.ErrLong)
}
