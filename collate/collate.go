// Package collate: the order of texts: see DOC.md.
package collate

import (
	"slices"

	"tome/api"
)

// Collator is a table and options.
type Collator struct {
	nodes   nodes
	options api.Options
}

// New reads a table (P3 to P5); the number is that of the line that is wrong.
func New(table string, o api.Options) (*Collator, int, api.Errno) {
	if o.Strength < 1 || o.Strength > maxLevels {
		return nil, 0, api.ErrOption
	}
	if len(table) > api.MaxTable {
		return nil, 0, api.ErrLong
	}
	return build(table, o)
}

// Normal tells the runes that a text is made of (P6).
func (c *Collator) Normal(s string) ([]int, api.Errno) {
	if isLong(s) {
		return nil, api.ErrLong
	}
	return c.nodes.normalForm(s), api.OK
}

// Elements tells the elements of a text (P7).
func (c *Collator) Elements(s string) ([]api.Element, api.Errno) {
	if isLong(s) {
		return nil, api.ErrLong
	}
	return c.nodes.elements(c.nodes.normalForm(s)), api.OK
}

// Compare tells the order of two texts (P8).
func (c *Collator) Compare(a string, b string) (int, api.Errno) {
	if isLong(a) || isLong(b) {
		return 0, api.ErrLong
	}
	return slices.CompareFunc(c.standing(a), c.standing(b), slices.Compare[[]int]), api.OK
}

// Key tells bytes that stand in the order of texts (P9).
func (c *Collator) Key(s string) (string, api.Errno) {
	if isLong(s) {
		return "", api.ErrLong
	}
	return keyOf(c.standing(s)), api.OK
}

func isLong(s string) bool { return len(s) > api.MaxText }
