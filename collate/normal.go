package collate

import (
	"cmp"
	"slices"
)

func (n nodes) normalForm(s string) []int {
	var runes []int
	for _, r := range s {
		runes = n.appendParts(runes, int(r))
	}
	n.arrange(runes)
	return runes
}

// appendParts ends, since New takes no parts that do not.
func (n nodes) appendParts(runes []int, top int) []int {
	whole := n[top]
	if !whole.hasParts() {
		return append(runes, top)
	}
	for _, part := range whole.parts {
		runes = n.appendParts(runes, part)
	}
	return runes
}

// arrange sorts stably what stands between two runes that are no marks: no
// exchange of neighbours passes one of these, nor a mark of the same class,
// so this is where all exchanges end.
func (n nodes) arrange(runes []int) {
	first := 0
	for i, r := range runes {
		if !n[r].isMark() {
			slices.SortStableFunc(runes[first:i], n.byClass)
			first = i + 1
		}
	}
	slices.SortStableFunc(runes[first:], n.byClass)
}

func (n nodes) byClass(a int, b int) int { return cmp.Compare(n[a].class, n[b].class) }
