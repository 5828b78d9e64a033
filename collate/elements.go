package collate

import (
	"slices"

	"tome/api"
)

const (
	implicitBase = 0xfb40
	implicitStep = 0x8000 // runes that have the same first weight
)

// elements goes through a copy, since runes are taken out of it. Each sequence
// is a copy, too, with room to grow: it must not grow into what is left.
func (n nodes) elements(normal []int) []api.Element {
	var elements []api.Element
	for rest := slices.Clone(normal); len(rest) > 0; {
		length := n.longest(rest)
		s := append(make([]int, 0, api.MaxSequence), rest[:length]...)
		s, rest = n.grow(s, rest[length:])
		elements = append(elements, n.weigh(s)...)
	}
	return elements
}

// longest answers 1 for a rune that is no sequence, too: it is taken alone.
func (n nodes) longest(runes []int) int {
	for length := min(len(runes), api.MaxSequence); length > 1; length-- {
		if n.hasSequence(runes[:length]) {
			return length
		}
	}
	return 1
}

// grow need not hold a mark against all that were passed: in a normal form
// classes rise, so the mark that was passed last has the greatest.
func (n nodes) grow(s []int, rest []int) ([]int, []int) {
	passed := 0
	for i := 0; i < len(rest) && len(s) < api.MaxSequence; {
		mark := n[rest[i]]
		if !mark.isMark() {
			break
		}
		grown := append(s, rest[i])
		if mark.class > passed && n.hasSequence(grown) {
			s, rest = grown, slices.Delete(rest, i, i+1)
			continue
		}
		passed = mark.class
		i++
	}
	return s, rest
}

func (n nodes) weigh(s []int) []api.Element {
	if elements := n[s[0]].of(s); len(elements) > 0 {
		return elements
	}
	return implicit(s[0])
}

// implicit are the elements of a rune that the table does not weigh.
func implicit(r int) []api.Element {
	return []api.Element{
		{Primary: implicitBase + r/implicitStep, Secondary: api.Second, Tertiary: api.Third},
		{Primary: implicitStep + r%implicitStep},
	}
}
