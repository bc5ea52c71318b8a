package gds

import (
	"pellicle/api"
	"pellicle/kinds"
	"pellicle/record"
)

// misfit is what a parser throws where the records aren't as the grammar has them.
type misfit struct{}

// fits does what may throw a misfit, and tells whether it did not. Anything else that is thrown is a fault of the program itself, and isn't hidden here.
func fits(do func()) (fit bool) {
	defer func() {
		thrown := recover()
		if thrown == nil {
			return
		}
		if _, known := thrown.(misfit); !known {
			panic(thrown)
		}
		fit = false
	}()
	do()
	return true
}

// parser lets records go by as the grammar has them, and throws a misfit where they are other.
type parser struct {
	cursor
}

// over gives a parser ahead of a list.
func over(l []api.Record) *parser { return &parser{cursor{list: l}} }

// takes lets the next record go by, if it is of a kind. One of it that isn't right fits no rule.
func (p *parser) takes(kind byte) bool {
	if !p.sees(kind) {
		return false
	}
	if !record.Right(p.next()) {
		panic(misfit{})
	}
	return true
}

// must lets a record of each kind go by, in their order.
func (p *parser) must(list ...byte) {
	for _, kind := range list {
		if !p.takes(kind) {
			panic(misfit{})
		}
	}
}

// may lets a record of each kind go by where there is one, in their order.
func (p *parser) may(list ...byte) {
	for _, kind := range list {
		p.takes(kind)
	}
}

// many lets the next records of a kind go by, and tells whether there was one.
func (p *parser) many(kind byte) bool {
	found := false
	for p.takes(kind) {
		found = true
	}
	return found
}

// end asks that all records have gone by.
func (p *parser) end() {
	if !p.ended() {
		panic(misfit{})
	}
}

// taken gives the records that a rule lets go by.
func (p *parser) taken(rule func()) []api.Record {
	place := p.at
	rule()
	return p.since(place)
}

// library needs no end: what Split gives has its ENDLIB as the last record.
func (p *parser) library() api.Lib {
	t := api.Lib{Head: p.taken(p.head)}
	for p.sees(kinds.BgnStr) {
		t.Cells = append(t.Cells, p.cell())
	}
	p.must(kinds.EndLib)
	return t
}

// cell ends where the records do, too: an item throws a misfit there.
func (p *parser) cell() api.Cell {
	c := api.Cell{Head: p.taken(p.title)}
	for !p.takes(kinds.EndStr) {
		c.Items = append(c.Items, p.item())
	}
	return c
}

func (p *parser) item() api.Item {
	x := api.Item{Fields: p.taken(p.element), Props: p.taken(p.properties)}
	p.must(kinds.EndEl)
	return x
}
