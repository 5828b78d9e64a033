package collate

import (
	"slices"

	"tome/api"
)

const maxLevels = 4

// levels are numbers by which texts are compared, the first list ahead of the
// second, and so on.
type levels [maxLevels][]int

func (l *levels) add(level int, weight int) { l[level-1] = append(l[level-1], weight) }

// addWeights leaves out what is 0: it counts for nothing.
func (l *levels) addWeights(e api.Element) {
	for i, weight := range []int{e.Primary, e.Secondary, e.Tertiary} {
		if weight != 0 {
			l.add(i+1, weight)
		}
	}
}

func levelsOf(elements []api.Element) levels {
	var l levels
	for _, e := range elements {
		l.addWeights(e)
	}
	return l
}

func shiftedLevelsOf(elements []api.Element) levels {
	var l levels
	behindVariable := false
	for _, e := range elements {
		if e.Primary != 0 {
			behindVariable = e.Variable
		}
		switch {
		case e.Variable:
			l.add(4, e.Primary)
		case behindVariable:
			// It goes with the variable element that it stands behind.
		case e != api.Element{}:
			l.addWeights(e)
			l.add(4, api.MaxWeight)
		}
	}
	return l
}

// standing is all that decides where a text stands: its levels, as many as the
// strength says, and behind them its normal form.
func (c *Collator) standing(s string) [][]int {
	normal := c.nodes.normalForm(s)
	elements := c.nodes.elements(normal)
	l := levelsOf(elements)
	if c.options.Shifted {
		l = shiftedLevelsOf(elements)
	}
	return append(slices.Clone(l[:c.options.Strength]), normal)
}

// keyOf puts a 0 behind each list. No level has one in it, so a level that ends
// is less than one that goes on; the runes may have one, but they come last.
func keyOf(standing [][]int) string {
	var key []byte
	for _, list := range standing {
		for _, number := range list {
			key = appendNumber(key, number)
		}
		key = appendNumber(key, 0)
	}
	return string(key)
}

// appendNumber has room for the greatest rune; the greatest digit comes first,
// so that bytes are compared as the numbers are.
func appendNumber(key []byte, number int) []byte {
	return append(key, byte(number>>16), byte(number>>8), byte(number))
}
