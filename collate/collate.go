// Package collate: the order of texts: see DOC.md.
package collate

import "tome/api"

const maxStrength = 4 // levels that there are

// Collator is a table and options.
type Collator struct {
	nodes   nodes
	options api.Options
}

// New reads a table (P3 to P5); the number is that of the line that is wrong.
func New(table string, o api.Options) (*Collator, int, api.Errno) {
	if o.Strength < 1 || o.Strength > maxStrength {
		return nil, 0, api.ErrOption
	}
	if len(table) > api.MaxTable {
		return nil, 0, api.ErrLong
	}
	return build(table, o)
}

// Normal tells the runes that a text is made of (P6).
func (c *Collator) Normal(s string) ([]int, api.Errno) {
	if len(s) > api.MaxText {
		return nil, api.ErrLong
	}
	return c.nodes.normalForm(s), api.OK
}

// Elements tells the elements of a text (P7).
func (c *Collator) Elements(s string) ([]api.Element, api.Errno) { return nil, api.OK }

// Compare tells the order of two texts (P8).
func (c *Collator) Compare(a string, b string) (int, api.Errno) { return 0, api.OK }

// Key tells bytes that stand in the order of texts (P9).
func (c *Collator) Key(s string) (string, api.Errno) { return "", api.OK }
