package gds

import "pellicle/api"

// cursor stands ahead of one of a list's records, or behind the last one.
type cursor struct {
	list []api.Record
	at   int
}

// ended tells whether all records have gone by.
func (c *cursor) ended() bool { return c.at == len(c.list) }

// sees tells whether the next record is of a kind.
func (c *cursor) sees(kind byte) bool { return !c.ended() && c.list[c.at].Kind == kind }

// next lets a record go by; there must be one.
func (c *cursor) next() api.Record {
	r := c.list[c.at]
	c.at++
	return r
}

// since gives the records that have gone by since a place, as a list of its own: a tree's lists share no room.
func (c *cursor) since(place int) []api.Record {
	return append([]api.Record(nil), c.list[place:c.at]...)
}
