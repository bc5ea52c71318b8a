package flat

import (
	"maps"
	"slices"

	"pellicle/api"
	"pellicle/gds"
	"pellicle/kinds"
	"pellicle/record"
)

// book has a library's cells by their names.
type book struct {
	names []string // in the order of the cells, each once
	cells map[string]entry
	named map[string]int // how many references there are to a cell
	again bool           // have two cells one name?
}

// entry is what stands in a book at a name. Where several cells have it, a reference names them all, so what they refer to stands together.
type entry struct {
	items  []api.Item // of the last one of them
	refers []string   // the names in their references
}

// bookOf reads which cells there are, and which they refer to.
func bookOf(t api.Lib) book {
	b := book{cells: map[string]entry{}, named: map[string]int{}}
	for _, c := range t.Cells {
		name := gds.Name(c)
		known, again := b.cells[name]
		if again {
			b.again = true
		} else {
			b.names = append(b.names, name)
		}
		for _, x := range c.Items {
			if to, refers := referred(x); refers {
				known.refers = append(known.refers, to)
				b.named[to]++
			}
		}
		b.cells[name] = entry{c.Items, known.refers}
	}
	return b
}

// referred gives the name in a reference, if an item is one.
func referred(x api.Item) (string, bool) {
	r, refers := gds.Field(x, kinds.SName)
	return record.Text(r.Body), refers
}

// lost: is there a reference to a cell that isn't there?
func (b book) lost() bool {
	for name := range b.named {
		if _, there := b.cells[name]; !there {
			return true
		}
	}
	return false
}

// tops gives the names to which no cell refers, in order.
func (b book) tops() []string {
	var l []string
	for _, name := range b.names {
		if b.named[name] == 0 {
			l = append(l, name)
		}
	}
	return l
}

// order gives the names so that each is ahead of those to which its cell refers, the tops at first. What a cell on a cycle is behind never comes: then some are missing.
func (b book) order(tops []string) []string {
	order, waits := slices.Clone(tops), maps.Clone(b.named)
	for i := 0; i < len(order); i++ { // it grows within
		for _, to := range b.cells[order[i]].refers {
			waits[to]--
			if waits[to] == 0 {
				order = append(order, to)
			}
		}
	}
	return order
}

// deepest tells how many cells there are within one another, at most, if none is missing in the order.
func (b book) deepest(order []string) int {
	most, around := 0, map[string]int{} // how many cells a cell lies in
	for _, name := range order {
		depth := around[name] + 1
		most = max(most, depth)
		for _, to := range b.cells[name].refers {
			around[to] = max(around[to], depth)
		}
	}
	return most
}
