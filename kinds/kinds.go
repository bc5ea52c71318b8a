// Package kinds names the kinds of a stream's records by their numbers, for all layers that tell records apart; see shared/doc/06-record.md.
package kinds

// The kinds of records.
const (
	Header       = 0x00
	BgnLib       = 0x01
	LibName      = 0x02
	Units        = 0x03
	EndLib       = 0x04
	BgnStr       = 0x05
	StrName      = 0x06
	EndStr       = 0x07
	Boundary     = 0x08
	Path         = 0x09
	SRef         = 0x0a
	ARef         = 0x0b
	Text         = 0x0c
	Layer        = 0x0d
	DataType     = 0x0e
	Width        = 0x0f
	XY           = 0x10
	EndEl        = 0x11
	SName        = 0x12
	ColRow       = 0x13
	Node         = 0x15
	TextType     = 0x16
	Presentation = 0x17
	String       = 0x19
	STrans       = 0x1a
	Mag          = 0x1b
	Angle        = 0x1c
	RefLibs      = 0x1f
	Fonts        = 0x20
	PathType     = 0x21
	Generations  = 0x22
	AttrTable    = 0x23
	ElFlags      = 0x26
	NodeType     = 0x2a
	PropAttr     = 0x2b
	PropValue    = 0x2c
	Box          = 0x2d
	BoxType      = 0x2e
	Plex         = 0x2f
	BgnExtn      = 0x30
	EndExtn      = 0x31
	StrClass     = 0x34
	Format       = 0x36
	Mask         = 0x37
	EndMasks     = 0x38
	LibDirSize   = 0x39
	SrfName      = 0x3a
	LibSecur     = 0x3b
)
