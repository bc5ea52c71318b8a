package record

import (
	"slices"

	"pellicle/api"
	"pellicle/kinds"
)

// The Data of records: of what their bodies are.
const (
	dataNone   = 0
	dataBits   = 1
	dataShorts = 2
	dataLongs  = 3
	dataReals  = 5
	dataText   = 6
)

const (
	bitsBytes  = 2
	realBytes  = 8
	pairBytes  = 2   // texts are made of pairs, as a record has an even number of bytes: the 0 at the end makes them so
	textBytes  = 512 // at most, of a text
	nameBytes  = 32  // at most, of a cell's name
	attrBytes  = 44
	fontsBytes = 176
	libBytes   = 44
)

// frame is what the records of a kind are.
type frame struct {
	data  byte
	piece int             // bytes of the pieces of which a body is made
	most  int             // how many of them it has at most; the least is one, if there may be any
	signs func(byte) bool // which bytes a text may have; nil, if a body is no text
}

// Right: is a record one of its kind?
func Right(r api.Record) bool {
	f, listed := frameOf(r.Kind)
	return listed && r.Data == f.data && f.fits(len(r.Body)) && f.spells(r.Body)
}

// frameOf gives the frame of a kind, if it is one of the chapter's list.
func frameOf(kind byte) (frame, bool) {
	switch kind {
	case kinds.Header, kinds.Layer, kinds.DataType, kinds.TextType, kinds.PathType, kinds.Generations,
		kinds.NodeType, kinds.PropAttr, kinds.BoxType, kinds.Format, kinds.LibDirSize:
		return frame{data: dataShorts, piece: shortBytes, most: 1}, true
	case kinds.BgnLib, kinds.BgnStr:
		return frame{data: dataShorts, piece: 12 * shortBytes, most: 1}, true
	case kinds.ColRow:
		return frame{data: dataShorts, piece: 2 * shortBytes, most: 1}, true
	case kinds.LibSecur:
		return frame{data: dataShorts, piece: 3 * shortBytes, most: 32}, true
	case kinds.EndLib, kinds.EndStr, kinds.Boundary, kinds.Path, kinds.SRef, kinds.ARef,
		kinds.Text, kinds.EndEl, kinds.Node, kinds.Box, kinds.EndMasks:
		return frame{data: dataNone}, true
	case kinds.Width, kinds.Plex, kinds.BgnExtn, kinds.EndExtn:
		return frame{data: dataLongs, piece: longBytes, most: 1}, true
	case kinds.XY:
		return frame{data: dataLongs, piece: 2 * longBytes, most: api.MaxPoints}, true
	case kinds.Mag, kinds.Angle:
		return frame{data: dataReals, piece: realBytes, most: 1}, true
	case kinds.Units:
		return frame{data: dataReals, piece: 2 * realBytes, most: 1}, true
	case kinds.Presentation, kinds.STrans, kinds.ElFlags, kinds.StrClass:
		return frame{data: dataBits, piece: bitsBytes, most: 1}, true
	case kinds.LibName, kinds.String, kinds.PropValue, kinds.Mask, kinds.SrfName:
		return frame{data: dataText, piece: pairBytes, most: textBytes / pairBytes, signs: inText}, true
	case kinds.StrName, kinds.SName:
		return frame{data: dataText, piece: pairBytes, most: nameBytes / pairBytes, signs: inName}, true
	case kinds.AttrTable:
		return frame{data: dataText, piece: attrBytes, most: 1}, true
	case kinds.Fonts:
		return frame{data: dataText, piece: fontsBytes, most: 1}, true
	case kinds.RefLibs:
		return frame{data: dataText, piece: libBytes, most: 17}, true
	}
	return frame{}, false
}

// fits tells whether a body may have n bytes.
func (f frame) fits(n int) bool {
	if f.most == 0 {
		return n == 0
	}
	return n > 0 && n%f.piece == 0 && n/f.piece <= f.most
}

// spells tells whether a body has no bytes that it may not have. A 0 alone is no text.
func (f frame) spells(b []byte) bool {
	if f.signs == nil {
		return true
	}
	text := letters(b)
	wrong := func(sign byte) bool { return !f.signs(sign) }
	return len(text) > 0 && !slices.ContainsFunc(text, wrong)
}

// inText tells whether a text may have a byte, its end aside.
func inText(sign byte) bool { return sign != 0 }

// inName tells whether a cell's name may have a byte, its end aside.
func inName(sign byte) bool {
	switch {
	case 'A' <= sign && sign <= 'Z', 'a' <= sign && sign <= 'z', '0' <= sign && sign <= '9':
		return true
	}
	return sign == '_' || sign == '?' || sign == '$'
}
