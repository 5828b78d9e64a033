package collate

import (
	"slices"

	"tome/api"
)

// nodes has no node for a rune that the table does not name: the zero node
// that the map answers then says just that.
type nodes map[int]node

// node is what the table says of one rune.
type node struct {
	rank
	makeup
	weighing
}

// rank is what a line c says. The class 0 is never written in a table, so it
// also tells that there was no such line.
type rank struct {
	class int
}

func (r rank) isMark() bool { return r.class != 0 }

// makeup is what a line d says.
type makeup struct {
	parts []int
}

func (m makeup) hasParts() bool { return len(m.parts) > 0 }

// weighing is what the lines w say whose sequences begin with the rune.
type weighing struct {
	sequences []sequence
}

// of answers nothing where the runes are no sequence: each has an element at
// least.
func (w weighing) of(runes []int) []api.Element {
	for _, s := range w.sequences {
		if slices.Equal(s.runes, runes) {
			return s.elements
		}
	}
	return nil
}

func (w weighing) has(runes []int) bool { return len(w.of(runes)) > 0 }

// sequence is runes that are weighed together.
type sequence struct {
	runes    []int
	elements []api.Element
}

func (n nodes) hasSequence(runes []int) bool { return n[runes[0]].has(runes) }

// endsWithin stops at the bound, so that it ends where the parts do not.
func (n nodes) endsWithin(steps int, top int) bool {
	parts := n[top].parts
	if len(parts) == 0 {
		return true
	}
	if steps == 0 {
		return false
	}
	for _, part := range parts {
		if !n.endsWithin(steps-1, part) {
			return false
		}
	}
	return true
}
