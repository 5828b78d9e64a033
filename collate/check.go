package collate

import (
	"slices"

	"tome/api"
)

func (d *draft) checkParts() {
	for _, p := range d.parted {
		d.line = p.line
		refuse(!d.nodes.endsWithin(api.MaxDepth, p.top), api.ErrLoop)
	}
}

func (d *draft) checkPrefixes() {
	for _, w := range d.weighed {
		d.line = w.line
		refuse(slices.ContainsFunc(w.runes, d.isParted), api.ErrPrefix)
		refuse(len(w.runes) == 3 && !d.nodes.hasSequence(w.runes[:2]), api.ErrPrefix)
	}
}

func (d *draft) isParted(name int) bool { return d.nodes[name].hasParts() }

func (d *draft) checkVariables() {
	bound := d.leastPrimary()
	for _, w := range d.weighed {
		d.line = w.line
		for _, e := range w.elements {
			refuse(e.Variable && e.Primary >= bound, api.ErrWeight)
		}
	}
}

// leastPrimary leaves out what is variable; where nothing else is left, it
// answers a weight that no element reaches.
func (d *draft) leastPrimary() int {
	least := api.MaxWeight + 1
	for _, w := range d.weighed {
		for _, e := range w.elements {
			if !e.Variable && e.Primary != 0 {
				least = min(least, e.Primary)
			}
		}
	}
	return least
}
