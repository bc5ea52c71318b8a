package gds_test

import (
	"math/rand/v2"
	"regexp"
	"slices"
	"strings"

	"pellicle/api"
)

// The chapter's rules, with the smaller ones written out where they stand.
const (
	headRule  = "HEADER BGNLIB [LIBDIRSIZE] [SRFNAME] [LIBSECUR] LIBNAME [REFLIBS] [FONTS] [ATTRTABLE] [GENERATIONS] [FORMAT [MASK+ ENDMASKS]] UNITS"
	titleRule = "BGNSTR STRNAME [STRCLASS]"
	transRule = "[STRANS [MAG] [ANGLE]]"
)

// itemRules gives the rules of the seven.
func itemRules() []string {
	return []string{
		"BOUNDARY [ELFLAGS] [PLEX] LAYER DATATYPE XY",
		"PATH [ELFLAGS] [PLEX] LAYER DATATYPE [PATHTYPE] [WIDTH] [BGNEXTN] [ENDEXTN] XY",
		"SREF [ELFLAGS] [PLEX] SNAME " + transRule + " XY",
		"AREF [ELFLAGS] [PLEX] SNAME " + transRule + " COLROW XY",
		"TEXT [ELFLAGS] [PLEX] LAYER TEXTTYPE [PRESENTATION] [PATHTYPE] [WIDTH] " + transRule + " XY STRING",
		"NODE [ELFLAGS] [PLEX] LAYER NODETYPE XY",
		"BOX [ELFLAGS] [PLEX] LAYER BOXTYPE XY",
	}
}

// signs cuts a rule into names, brackets and +.
func signs(rule string) []string {
	for _, sign := range []string{"[", "]", "+"} {
		rule = strings.ReplaceAll(rule, sign, " "+sign+" ")
	}
	return strings.Fields(rule)
}

// rows gives every row of names that a rule may be; x+ is x once, and three times.
func rows(rule []string) [][]string {
	if len(rule) == 0 {
		return [][]string{nil}
	}
	first, rest := [][]string{{rule[0]}}, rule[1:]
	if rule[0] == "[" {
		n := inner(rest)
		first, rest = append([][]string{nil}, rows(rest[:n])...), rest[n+1:]
	} else if len(rest) > 0 && rest[0] == "+" {
		first, rest = append(first, []string{rule[0], rule[0], rule[0]}), rest[1:]
	}
	var l [][]string
	for _, a := range first {
		for _, b := range rows(rest) {
			l = append(l, slices.Concat(a, b))
		}
	}
	return l
}

// inner tells how many signs stand ahead of the bracket that closes the one ahead of them.
func inner(rule []string) int {
	deep := 0
	for i, sign := range rule {
		switch {
		case sign == "[":
			deep++
		case sign == "]" && deep == 0:
			return i
		case sign == "]":
			deep--
		}
	}
	panic("a bracket isn't closed")
}

// pattern gives a rule as a regular expression over kinds, two signs of base 16 each.
func pattern(rule string) string {
	var s strings.Builder
	for _, sign := range signs(rule) {
		switch sign {
		case "[":
			s.WriteString("(?:")
		case "]":
			s.WriteString(")?")
		case "+":
			s.WriteString("+")
		default:
			s.WriteString("(?:" + hex(kindOf(sign)) + ")")
		}
	}
	return s.String()
}

// whole makes a regular expression that asks for all of a text.
func whole(p string) *regexp.Regexp { return regexp.MustCompile("^(?:" + p + ")$") }

// The patterns of a tree's lists, and of a stream.
var (
	headPattern  = pattern(headRule)
	titlePattern = pattern(titleRule)
	itemPattern  = "(?:" + strings.Join(mapped(itemRules(), pattern), "|") + ")"
	propsPattern = "(?:" + pattern("PROPATTR PROPVALUE") + ")*"
	cellPattern  = titlePattern + "(?:" + itemPattern + propsPattern + pattern("ENDEL") + ")*" + pattern("ENDSTR")

	headFits   = whole(headPattern)
	titleFits  = whole(titlePattern)
	itemFits   = whole(itemPattern)
	propsFits  = whole(propsPattern)
	streamFits = whole(headPattern + "(?:" + cellPattern + ")*" + pattern("ENDLIB"))
)

// mapped gives what a function makes of each text.
func mapped(l []string, f func(string) string) []string {
	var m []string
	for _, s := range l {
		m = append(m, f(s))
	}
	return m
}

// treeFits tells whether all lists of a tree are as the rules have them; its records are right.
func treeFits(u api.Lib) bool {
	fit := headFits.MatchString(kindsOf(u.Head))
	for _, c := range u.Cells {
		fit = fit && titleFits.MatchString(kindsOf(c.Head))
		for _, x := range c.Items {
			fit = fit && itemFits.MatchString(kindsOf(x.Fields)) && propsFits.MatchString(kindsOf(x.Props))
		}
	}
	return fit
}

// grown makes a tree of a stream's records, which are as the rules have them, by the records at which its lists begin.
func grown(l []api.Record) api.Lib {
	var u api.Lib
	list := &u.Head
	for _, r := range l {
		switch r.Kind {
		case 0x05:
			u.Cells = append(u.Cells, api.Cell{})
			list = &u.Cells[len(u.Cells)-1].Head
		case 0x08, 0x09, 0x0a, 0x0b, 0x0c, 0x15, 0x2d:
			c := &u.Cells[len(u.Cells)-1]
			c.Items = append(c.Items, api.Item{})
			list = &c.Items[len(c.Items)-1].Fields
		case 0x2b:
			c := &u.Cells[len(u.Cells)-1]
			list = &c.Items[len(c.Items)-1].Props
		case 0x04, 0x07, 0x11:
			continue
		}
		*list = append(*list, r)
	}
	return u
}

// fixed makes the head that has no more than it must.
func fixed(c *rand.Rand) []api.Record { return row(c, "HEADER BGNLIB LIBNAME UNITS") }

// rowsKept keeps the rows of the rules, as there are many of the head's.
var rowsKept = map[string][][]string{}

// anyOf makes one of the rows of a rule by chance.
func anyOf(c *rand.Rand, rule string) []api.Record {
	l, kept := rowsKept[rule]
	if !kept {
		l = rows(signs(rule))
		rowsKept[rule] = l
	}
	return recs(c, l[c.IntN(len(l))]...)
}

// anyItem makes an item by chance.
func anyItem(c *rand.Rand) api.Item {
	x := api.Item{Fields: anyOf(c, itemRules()[c.IntN(7)])}
	for range c.IntN(3) {
		x.Props = append(x.Props, row(c, "PROPATTR PROPVALUE")...)
	}
	return x
}

// anyTree makes a library by chance.
func anyTree(c *rand.Rand) api.Lib {
	u := api.Lib{Head: anyOf(c, headRule)}
	for range c.IntN(4) {
		d := api.Cell{Head: anyOf(c, titleRule)}
		for range c.IntN(5) {
			d.Items = append(d.Items, anyItem(c))
		}
		u.Cells = append(u.Cells, d)
	}
	return u
}

// fullest makes a library with all that may be in it: two cells, one with an item of each of the seven.
func fullest(c *rand.Rand) api.Lib {
	last := func(rule string) []api.Record {
		l := rows(signs(rule))
		return recs(c, l[len(l)-1]...)
	}
	u := api.Lib{Head: last(headRule), Cells: []api.Cell{{Head: last(titleRule)}, {Head: last(titleRule)}}}
	for _, rule := range itemRules() {
		x := api.Item{Fields: last(rule), Props: row(c, "PROPATTR PROPVALUE PROPATTR PROPVALUE")}
		u.Cells[0].Items = append(u.Cells[0].Items, x)
	}
	u.Cells[1].Items = []api.Item{{Fields: last(itemRules()[0])}}
	return u
}

// barest makes a library with an item of each of the seven that has no more than it must.
func barest(c *rand.Rand) api.Lib {
	u := api.Lib{Head: fixed(c), Cells: []api.Cell{{Head: row(c, "BGNSTR STRNAME")}}}
	for _, rule := range itemRules() {
		u.Cells[0].Items = append(u.Cells[0].Items, api.Item{Fields: recs(c, rows(signs(rule))[0]...)})
	}
	return u
}
