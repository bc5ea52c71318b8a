package record_test

import (
	"bytes"
	"slices"
	"testing"

	"pellicle/api"
	"pellicle/record"
)

// The examples of the chapter.
func TestSplitExamples(t *testing.T) {
	b := []byte{0x00, 0x06, 0x00, 0x02, 0x02, 0x58, 0x00, 0x04, 0x04, 0x00, 0x00, 0x00}
	splits(t, b, []api.Record{of(0x00, 2, 0x02, 0x58), end()}, 10)
	refuses(t, []byte{0x00, 0x05}, api.ErrForm)
	refuses(t, []byte{0x00, 0x05, 0x00, 0x02, 0x02, 0x58, 0x00, 0x04, 0x04, 0x00}, api.ErrForm)
	refuses(t, b[:6], api.ErrNone)
}

// P6.2: records of each kind and Data, right or not, up to the ENDLIB.
func TestSplitEachKind(t *testing.T) {
	c := chance()
	for kind := range 256 {
		for data := range 256 {
			if kind == 0x04 {
				continue
			}
			l := []api.Record{of(byte(kind), byte(data), some(c, 2*c.IntN(4))...), of(byte(kind), byte(data)), end()}
			b := stream(l...)
			splits(t, b, l, len(b))
		}
	}
}

// P6.2: the first ENDLIB ends the records, whatever its Data and body are; what stands behind it is no record.
func TestSplitEndsAtTheFirst(t *testing.T) {
	for data := range 256 {
		for _, body := range [][]byte{nil, {0, 0}, {1, 2}, {0, 4, 4, 0}, {0xff, 0xff, 0xff, 0xff, 0xff, 0xff}} {
			last := of(0x04, byte(data), body...)
			l := []api.Record{of(0x00, 2, 2, 88), last}
			b := stream(l...)
			splits(t, b, l, len(b))
			splits(t, stream(last), l[1:], len(body)+4)
			for n := range 9 {
				splits(t, append(bytes.Clone(b), make([]byte, n)...), l, len(b))
			}
			refuses(t, append(bytes.Clone(b), b...), api.ErrRange)
			refuses(t, append(bytes.Clone(b), 0, 4, 4, 0), api.ErrRange)
		}
	}
}

// P6.2: a 4 in another place than a kind's ends nothing.
func TestSplitOtherFours(t *testing.T) {
	l := []api.Record{of(0x10, 4, 0, 4, 4, 0, 0, 4, 4, 0), of(0x05, 4, 4, 4), of(0x44, 4), end()}
	b := stream(l...)
	splits(t, b, l, len(b))
	refuses(t, stream(l[:3]...), api.ErrNone)
}

// P6.2: a byte behind the ENDLIB that isn't 0 is ErrRange, wherever it stands and whatever it is.
func TestSplitBehindTheEnd(t *testing.T) {
	b := stream(of(0x00, 2, 2, 88), end())
	for n := range 12 {
		splits(t, append(bytes.Clone(b), make([]byte, n)...), []api.Record{of(0x00, 2, 2, 88), end()}, 10)
		for place := range n {
			for _, sign := range []byte{1, 4, 0x7f, 0x80, 0xff} {
				behind := make([]byte, n)
				behind[place] = sign
				refuses(t, append(bytes.Clone(b), behind...), api.ErrRange)
			}
		}
	}
}

// P6.2: each length of two bytes, the least and the greatest, with just as many bytes, and with fewer.
func TestSplitLengths(t *testing.T) {
	long := make([]byte, 1<<16+8)
	for i := range long {
		long[i] = byte(i % 251)
	}
	for n := range 1 << 16 {
		if n > 1000 && n < 65000 && n%61 > 1 { // of those between some, odd and even
			continue
		}
		b := bytes.Clone(long[:max(n, 4)+4])
		b[0], b[1], b[2], b[3] = byte(n>>8), byte(n), 0x10, 3
		copy(b[max(n, 4):], []byte{0, 4, 4, 0})
		if n < 4 || n%2 != 0 {
			refuses(t, b, api.ErrForm)
			refuses(t, b[:max(n, 4)], api.ErrForm)
			refuses(t, b[:2], api.ErrForm)
			continue
		}
		splits(t, b, []api.Record{of(0x10, 3, b[4:n]...), end()}, n+4)
		for _, left := range []int{1, 2, 3, 4, n - 1, n, n + 1, n + 2, n + 3} {
			refuses(t, b[:left], api.ErrNone)
		}
	}
}

// P6.2: a stream that is cut short anywhere ahead of its end is ErrNone.
func TestSplitCut(t *testing.T) {
	b := stream(of(0x00, 2, 2, 88), of(0x01, 2, make([]byte, 24)...), of(0x02, 6, 'a', 0), of(0x03, 5, make([]byte, 16)...), of(0x04, 0, 7, 7))
	for n := range len(b) {
		refuses(t, b[:n], api.ErrNone)
	}
	splits(t, b, []api.Record{of(0x00, 2, 2, 88), of(0x01, 2, make([]byte, 24)...), of(0x02, 6, 'a', 0), of(0x03, 5, make([]byte, 16)...), of(0x04, 0, 7, 7)}, len(b))
	refuses(t, nil, api.ErrNone)
	refuses(t, []byte{}, api.ErrNone)
	refuses(t, []byte{0}, api.ErrNone)
	refuses(t, []byte{0xff}, api.ErrNone)
}

// P6.2: of several faults the first place's is told; at one place the one that the chapter names first.
func TestSplitSeveralFaults(t *testing.T) {
	good := stream(of(0x00, 2, 2, 88))
	form, none := []byte{0, 5, 0, 2, 1}, []byte{0, 8, 0, 2, 1}
	behind := []byte{0, 4, 4, 0, 1}
	for want, parts := range map[api.Errno][][]byte{
		api.ErrForm:  {form, good, form, behind, none},
		api.ErrRange: {good, behind, form, none},
		api.ErrNone:  {good, good, none},
	} {
		refuses(t, slices.Concat(parts...), want)
		refuses(t, slices.Concat(good, slices.Concat(parts...)), want)
	}
	refuses(t, slices.Concat(good, form, behind), api.ErrForm)
	refuses(t, slices.Concat(good, form, none), api.ErrForm)
	refuses(t, slices.Concat(behind, form), api.ErrRange)
	for _, b := range [][]byte{{0, 5}, {0, 0}, {0, 3, 4}, {0, 2, 4}, {0xff, 0xff}, {0xff, 0xff, 4}, {0xff, 0xff, 4, 0}, {0, 7, 4, 0, 0}, {0, 5, 4, 0}} {
		refuses(t, b, api.ErrForm)
		refuses(t, slices.Concat(good, b), api.ErrForm)
	}
	for _, b := range [][]byte{{0}, {0xff}, {0, 4}, {0, 4, 4}, {0, 6, 4}, {0, 6, 4, 0}, {0, 6, 4, 0, 0}, {0xff, 0xfe}, {0xff, 0xfe, 4, 0}} {
		refuses(t, b, api.ErrNone)
		refuses(t, slices.Concat(good, b), api.ErrNone)
	}
}

// expected tells what the chapter says of a stream, record for record, by looking at what is left of it.
func expected(b []byte) ([]api.Record, int, api.Errno) {
	if len(b) > 1<<24 {
		return nil, 0, api.ErrLong
	}
	if len(b) >= 2 && (b[1]%2 == 1 || b[0] == 0 && b[1] < 4) {
		return nil, 0, api.ErrForm
	}
	if len(b) < 4 || len(b) < 256*int(b[0])+int(b[1]) {
		return nil, 0, api.ErrNone
	}
	n := 256*int(b[0]) + int(b[1])
	r := of(b[2], b[3], b[4:n]...)
	if r.Kind == 0x04 {
		if len(bytes.Trim(b[n:], "\x00")) > 0 {
			return nil, 0, api.ErrRange
		}
		return []api.Record{r}, n, api.OK
	}
	l, m, e := expected(b[n:])
	if e != api.OK {
		return nil, 0, e
	}
	return append([]api.Record{r}, l...), n + m, api.OK
}

// splitsAsExpected holds Split against what the chapter says.
func splitsAsExpected(t *testing.T, b []byte) api.Errno {
	t.Helper()
	l, n, e := expected(b)
	if e == api.OK {
		splits(t, b, l, n)
	} else {
		refuses(t, b, e)
	}
	return e
}

// P6.2: all short streams of few bytes, and what each of them is.
func TestSplitAllShort(t *testing.T) {
	signs := []byte{0, 4, 6, 5}
	seen := map[api.Errno]int{}
	for n := range 10 {
		b := make([]byte, n)
		for number := range 1 << (2 * n) {
			for i := range b {
				b[i] = signs[number>>(2*i)&3]
			}
			seen[splitsAsExpected(t, b)]++
		}
	}
	for _, e := range []api.Errno{api.OK, api.ErrForm, api.ErrNone, api.ErrRange} {
		if seen[e] < 100 {
			t.Fatal("too few of error", e, seen)
		}
	}
}

// P6.2: longer streams, with a byte that is other than it was.
func TestSplitWithAFault(t *testing.T) {
	c := chance()
	for range 3000 {
		var l []api.Record
		for range c.IntN(6) {
			l = append(l, of(byte(c.IntN(64)), byte(c.IntN(7)), some(c, 2*c.IntN(12))...))
		}
		b := append(stream(append(l, end())...), make([]byte, c.IntN(5))...)
		splitsAsExpected(t, b)
		b[c.IntN(len(b))] = byte(c.IntN(8))
		splitsAsExpected(t, b)
		b[c.IntN(len(b))] = byte(c.Uint32())
		splitsAsExpected(t, b)
	}
}

// full is a stream of n bytes, n even, with the ENDLIB as its last record; its other records as long as they may be.
func full(n int) ([]byte, []api.Record) {
	b := make([]byte, n)
	var l []api.Record
	at := 0
	for left := n - 4; left > 0; left = n - 4 - at {
		size := min(left, 65534)
		if left > size && left < size+4 {
			size -= 4
		}
		copy(b[at:], []byte{byte(size >> 8), byte(size), 0x10, 3})
		b[at+4], b[at+size-1] = byte(len(l)), 7
		l = append(l, of(0x10, 3, b[at+4:at+size]...))
		at += size
	}
	copy(b[at:], []byte{0, 4, 4, 0})
	return b, append(l, end())
}

// P6.2: streams of MaxStream bytes, and bodies of MaxBody; one byte more of a stream is ErrLong, whatever else is wrong.
func TestSplitOfTheGreatest(t *testing.T) {
	b, l := full(1 << 24)
	if len(b) != 1<<24 || len(l[0].Body) != 65530 {
		t.Fatal(len(b), len(l[0].Body))
	}
	splits(t, b, l, 1<<24)
	room := append(b, 0)
	refuses(t, room, api.ErrLong)
	refuses(t, append(b, 1), api.ErrLong)
	refuses(t, room[1:], api.ErrForm) // of MaxStream bytes again, it is read: behind its first record stands a length of 0
	b[1] = 5
	refuses(t, b, api.ErrForm)
	refuses(t, append(b, 1), api.ErrLong)
	nought := make([]byte, 1<<24+1)
	copy(nought, []byte{0, 4, 4, 0})
	splits(t, nought[:1<<24], []api.Record{end()}, 4)
	refuses(t, nought, api.ErrLong)
	refuses(t, make([]byte, 1<<25), api.ErrLong)
	nought[1<<24-1] = 1
	refuses(t, nought[:1<<24], api.ErrRange)
}

// P6.2: as many records as a stream may have.
func TestSplitOfTheMost(t *testing.T) {
	b := bytes.Repeat([]byte{0, 4, 0x11, 0}, 1<<22)
	refuses(t, b, api.ErrNone)
	b[1<<24-2] = 0x04
	l, n, e := record.Split(b)
	if e != api.OK || n != 1<<24 || len(l) != 1<<22 || l[1<<22-1].Kind != 0x04 || l[1<<22-2].Kind != 0x11 {
		t.Fatal(len(l), n, e)
	}
}
