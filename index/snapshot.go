package index

import "slices"

// snapshot has a list of its own, since the one of now is written into.
type snapshot struct {
	handle int
	shown  versions
}

// snapshots are those that are held, in the order in which they were taken.
type snapshots []snapshot

// find answers -1 of a handle that is not held.
func (l snapshots) find(handle int) int {
	return slices.IndexFunc(l, func(s snapshot) bool { return s.handle == handle })
}

func (l snapshots) with(s snapshot) snapshots { return append(l, s) }

func (l snapshots) without(i int) snapshots { return slices.Delete(l, i, i+1) }
