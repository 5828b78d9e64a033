package index

import (
	"slices"
	"strings"

	"tome/api"
)

// version is what is shown of a key from some moment on. Its place, the
// collator's bytes of the text, is worked out once and is the same for all
// texts that are one key; the entry has the text as it was put. It is never
// changed, since snapshots may show it too.
type version struct {
	place string
	entry api.Entry
}

func (v *version) compare(place string) int { return strings.Compare(v.place, place) }

// versions has at most one of each key, and they stand in the order of their
// places. Two lists that have the same pointer show the same version: equal
// texts and values would not tell, since a key may be put anew with both.
type versions []*version

// find also answers where a key that is not there would stand.
func (l versions) find(place string) (int, bool) {
	return slices.BinarySearchFunc(l, place, (*version).compare)
}

func (l versions) countBelow(place string) int {
	count, _ := l.find(place)
	return count
}

func (l versions) has(v *version) bool {
	i, there := l.find(v.place)
	return there && l[i] == v
}

func (l versions) countNotIn(other versions) int {
	count := 0
	for _, v := range l {
		if !other.has(v) {
			count++
		}
	}
	return count
}

func (l versions) with(i int, v *version) versions { return slices.Insert(l, i, v) }

func (l versions) without(i int) versions { return slices.Delete(l, i, i+1) }

// entries is a list of its own, so that the caller may write into it.
func (l versions) entries() []api.Entry {
	entries := make([]api.Entry, 0, len(l))
	for _, v := range l {
		entries = append(entries, v.entry)
	}
	return entries
}
