package split

import (
	"container/heap"

	"pellicle/plane"
)

// event is a point at which something may change, and bars that are known to have it among theirs.
type event struct {
	at   plane.Pt
	bars []*bar
}

// begin gives the bars that begin there.
func (e *event) begin() []*bar {
	var out []*bar
	for _, b := range e.bars {
		if b.from.Cmp(e.at) == 0 {
			out = append(out, b)
		}
	}
	return out
}

// queue is events to come, as a heap: the least point is told first.
type queue []*event

// next takes all events of the least point out, as one.
func (q *queue) next() *event {
	e := heap.Pop(q).(*event)
	for len(*q) > 0 && same((*q)[0].at, e.at) {
		e.bars = append(e.bars, heap.Pop(q).(*event).bars...)
	}
	return e
}

func (q queue) Len() int { return len(q) }

func (q queue) Less(i, j int) bool { return q[i].at.Cmp(q[j].at) < 0 }

func (q queue) Swap(i, j int) { q[i], q[j] = q[j], q[i] }

func (q *queue) Push(x any) { *q = append(*q, x.(*event)) }

func (q *queue) Pop() any {
	last := len(*q) - 1
	e := (*q)[last]
	*q = (*q)[:last]
	return e
}
