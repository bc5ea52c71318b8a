package split

import (
	"container/heap"
	"slices"

	"pellicle/plane"
)

// sweep goes through the points of the plane as they rise, from one at which bars begin, end or meet to the next one.
type sweep struct {
	ahead  queue  // the points to come that are known by now
	across []*bar // the bars that have begun and not ended, as they lie above one another just behind the last point
}

// cutAll cuts bars where they meet one another, and where lone points lie on them.
func cutAll(bars []*bar, lone []plane.Pt) {
	var w sweep
	for _, b := range bars {
		w.ahead = append(w.ahead, &event{b.from, []*bar{b}}, &event{b.to, []*bar{b}})
	}
	for _, p := range lone {
		w.ahead = append(w.ahead, &event{at: p})
	}
	heap.Init(&w.ahead)
	for len(w.ahead) > 0 {
		w.pass(w.ahead.next())
	}
}

// pass goes past a point: bars that have it among theirs are cut; those of them that go on lie behind it as they are steep.
func (w *sweep) pass(e *event) {
	from, to := w.through(e)
	on := e.begin()
	for _, b := range w.across[from:to] {
		if b.to.Cmp(e.at) > 0 {
			b.cuts = append(b.cuts, e.at)
			on = append(on, b)
		}
	}
	slices.SortFunc(on, steeper)
	w.across = slices.Replace(w.across, from, to, on...)
	w.meet(from)
	if len(on) > 0 {
		w.meet(from + len(on))
	}
}

// through tells which bars across have the event's point among theirs. If two of them or more have, the event names them all: each two neighbours were held against each other when they became neighbours.
func (w *sweep) through(e *event) (from, to int) {
	from = len(w.across)
	for _, b := range e.bars {
		if i := slices.Index(w.across, b); i >= 0 {
			from, to = min(from, i), max(to, i+1)
		}
	}
	if from < to {
		return from, to
	}
	from, found := slices.BinarySearchFunc(w.across, e.at, below)
	if found {
		return from, from + 1
	}
	return from, from
}

// meet looks where the bar i across and the one below it will meet, if they do.
func (w *sweep) meet(i int) {
	if i == 0 || i == len(w.across) {
		return
	}
	b, c := w.across[i-1], w.across[i]
	if steeper(b, c) <= 0 { // they part, or go side by side
		return
	}
	for _, p := range plane.Meet(b.seg(), c.seg()) {
		heap.Push(&w.ahead, &event{p, []*bar{b, c}})
	}
}

// steeper orders bars by how steep they are.
func steeper(b, c *bar) int { return b.line.turn(c.line) }

// below tells whether a bar across lies below a point (-1), has it, or lies above.
func below(b *bar, p plane.Pt) int { return -plane.Side(b.from, b.to, p) }

func (b *bar) seg() plane.Seg { return plane.Seg{A: b.from, B: b.to} }
