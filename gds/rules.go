package gds

import "pellicle/kinds"

// The chapter's rules whose records stand in one list of a tree. No rule has to look further than the next record: whatever may be left out begins with another kind than what follows it.

func (p *parser) head() {
	p.must(kinds.Header, kinds.BgnLib)
	p.may(kinds.LibDirSize, kinds.SrfName, kinds.LibSecur)
	p.must(kinds.LibName)
	p.may(kinds.RefLibs, kinds.Fonts, kinds.AttrTable, kinds.Generations)
	if p.takes(kinds.Format) && p.many(kinds.Mask) {
		p.must(kinds.EndMasks)
	}
	p.must(kinds.Units)
}

// title is what a cell has ahead of its items.
func (p *parser) title() {
	p.must(kinds.BgnStr, kinds.StrName)
	p.may(kinds.StrClass)
}

// element is one of the seven.
func (p *parser) element() {
	switch {
	case p.takes(kinds.Boundary):
		p.drawn(kinds.DataType)
		p.must(kinds.XY)
	case p.takes(kinds.Path):
		p.drawn(kinds.DataType)
		p.may(kinds.PathType, kinds.Width, kinds.BgnExtn, kinds.EndExtn)
		p.must(kinds.XY)
	case p.takes(kinds.SRef):
		p.referred()
		p.must(kinds.XY)
	case p.takes(kinds.ARef):
		p.referred()
		p.must(kinds.ColRow, kinds.XY)
	case p.takes(kinds.Text):
		p.drawn(kinds.TextType)
		p.may(kinds.Presentation, kinds.PathType, kinds.Width)
		p.trans()
		p.must(kinds.XY, kinds.String)
	case p.takes(kinds.Node):
		p.drawn(kinds.NodeType)
		p.must(kinds.XY)
	case p.takes(kinds.Box):
		p.drawn(kinds.BoxType)
		p.must(kinds.XY)
	default:
		panic(misfit{})
	}
}

// drawn is what stands behind the first record of an element that has a layer, and a type of its own kind.
func (p *parser) drawn(kind byte) {
	p.may(kinds.ElFlags, kinds.Plex)
	p.must(kinds.Layer, kind)
}

// referred is what stands behind the first record of an element that lays a cell.
func (p *parser) referred() {
	p.may(kinds.ElFlags, kinds.Plex)
	p.must(kinds.SName)
	p.trans()
}

func (p *parser) trans() {
	if p.takes(kinds.STrans) {
		p.may(kinds.Mag, kinds.Angle)
	}
}

func (p *parser) properties() {
	for p.takes(kinds.PropAttr) {
		p.must(kinds.PropValue)
	}
}
