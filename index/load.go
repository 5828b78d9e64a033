package index

import (
	"tome/api"
	"tome/collate"
)

// lineCount is how many keys are worked out at a time.
const lineCount = 4

// placing is what the collator answers of a text: its place among the keys, or
// that it has none.
type placing struct {
	place string
	errno api.Errno
}

func placingOf(c *collate.Collator, key string) placing {
	place, e := c.Key(key)
	return placing{place, e}
}

// lines has the placings of a list, the first line those of the first entry and
// of every lineCount-th one behind it, the next line those of the next entry
// and so on: received in turn they stand in the order of the list, however the
// goroutines run.
type lines [lineCount]chan placing

func placingsOf(c *collate.Collator, l []api.Entry) lines {
	var all lines
	for i := range all {
		all[i] = make(chan placing)
		go sendPlacings(all[i], c, l, i)
	}
	return all
}

func sendPlacings(line chan<- placing, c *collate.Collator, l []api.Entry, first int) {
	defer close(line)
	for i := first; i < len(l); i += lineCount {
		line <- placingOf(c, l[i].Key)
	}
}
