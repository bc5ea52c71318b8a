package gds

import (
	"pellicle/api"
	"pellicle/kinds"
)

const headBytes = 4 // of a record, ahead of its body

// check throws a misfit if a tree isn't a library's. Each list is held against its own rule, to its end: records that fit one behind the other may still stand in the wrong lists.
func check(t api.Lib) {
	whole(t.Head, (*parser).head)
	for _, c := range t.Cells {
		whole(c.Head, (*parser).title)
		for _, x := range c.Items {
			whole(x.Fields, (*parser).element)
			whole(x.Props, (*parser).properties)
		}
	}
}

// whole throws a misfit if a list isn't what a rule lets go by, all of it.
func whole(l []api.Record, rule func(*parser)) {
	p := over(l)
	rule(p)
	p.end()
}

// each hands on a tree's records in the order of a stream, with the ends that a tree leaves out.
func each(t api.Lib, do func(...api.Record)) {
	do(t.Head...)
	for _, c := range t.Cells {
		do(c.Head...)
		for _, x := range c.Items {
			do(x.Fields...)
			do(x.Props...)
			do(bare(kinds.EndEl))
		}
		do(bare(kinds.EndStr))
	}
	do(bare(kinds.EndLib))
}

// bare gives a record without a body.
func bare(kind byte) api.Record { return api.Record{Kind: kind} }

// records gives a tree's records as a list.
func records(t api.Lib) []api.Record {
	var l []api.Record
	each(t, func(more ...api.Record) { l = append(l, more...) })
	return l
}

// size tells how many bytes a tree's records have. It lays none of them down, as a tree may have far more than memory holds when its lists stand in it many times.
func size(t api.Lib) int {
	n := 0
	each(t, func(more ...api.Record) {
		for _, r := range more {
			n += headBytes + len(r.Body)
		}
	})
	return n
}
