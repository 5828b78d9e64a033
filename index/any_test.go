package index

import (
	"math"
	"slices"
	"testing"

	"tome/api"
	"tome/collate"
)

// dice is the same row of numbers at every run.
type dice uint64

func (d *dice) below(n int) int {
	*d = *d*6364136223846793005 + 1442695040888963407
	return int(uint64(*d)>>33) % n
}

func (d *dice) of(l ...string) string { return l[d.below(len(l))] }

func (d *dice) shuffle(l []api.Entry) {
	for i := range l {
		k := i + d.below(len(l)-i)
		l[i], l[k] = l[k], l[i]
	}
}

// plain is what the document says of an index, told another way: entries in
// the order in which they were put, each held against the collator anew.
type plain struct {
	collator *collate.Collator
	entries  []api.Entry
	met      map[api.Errno]int
	anew     int
}

func (p *plain) isLong(texts ...string) bool {
	return slices.ContainsFunc(texts, func(s string) bool { return len(s) > 64 })
}

func (p *plain) at(key string) int {
	normal, _ := p.collator.Normal(key)
	return slices.IndexFunc(p.entries, func(e api.Entry) bool {
		other, _ := p.collator.Normal(e.Key)
		return slices.Equal(normal, other)
	})
}

func (p *plain) put(key string, value string) api.Errno {
	if p.isLong(key, value) {
		return api.ErrLong
	}
	i := p.at(key)
	if i < 0 && len(p.entries) == 64 {
		return api.ErrFull
	}
	if i >= 0 {
		p.entries = slices.Delete(p.entries, i, i+1)
		p.anew++
	}
	p.entries = append(p.entries, api.Entry{Key: key, Value: value})
	return api.OK
}

func (p *plain) delete(key string) (bool, api.Errno) {
	if p.isLong(key) {
		return false, api.ErrLong
	}
	i := p.at(key)
	if i >= 0 {
		p.entries = slices.Delete(p.entries, i, i+1)
	}
	return i >= 0, api.OK
}

func (p *plain) get(key string) (string, bool, api.Errno) {
	if p.isLong(key) {
		return "", false, api.ErrLong
	}
	if i := p.at(key); i >= 0 {
		return p.entries[i].Value, true, api.OK
	}
	return "", false, api.OK
}

func (p *plain) scan(handle int, lo string, hi string, limit int) ([]api.Entry, api.Errno) {
	switch {
	case handle != 0:
		return nil, api.ErrHandle
	case p.isLong(lo, hi):
		return nil, api.ErrLong
	case limit < 0:
		return nil, api.ErrLimit
	}
	var l []api.Entry
	for _, e := range p.entries {
		if p.compare(e.Key, lo) >= 0 && (hi == "" || p.compare(e.Key, hi) < 0) {
			l = append(l, e)
		}
	}
	slices.SortFunc(l, func(a api.Entry, b api.Entry) int { return p.compare(a.Key, b.Key) })
	return l[:min(len(l), limit)], api.OK
}

func (p *plain) compare(a string, b string) int {
	n, _ := p.collator.Compare(a, b)
	return n
}

// anyText is mostly short, so that keys are met again, and some are too long.
func anyText(d *dice) string {
	if d.below(25) == 0 {
		return text(62 + d.below(5))
	}
	s := ""
	for range d.below(4) {
		s += d.of("a", "b", "c", "ch", "-", "z", "\xff", "\U0010ffff", "\u00e1", "\u1ea1", "\u0301", "\u0323")
	}
	return s
}

func anyNumber(d *dice, usual int) int {
	if d.below(6) > 0 {
		return usual
	}
	return []int{0, 1, -1, 2, 8, 64, math.MaxInt, math.MinInt, -64}[d.below(9)]
}

// pair is an index and what it is to answer.
type pair struct {
	*Index
	plain *plain
}

func (p pair) call(t *testing.T, d *dice, puts int) {
	t.Helper()
	key, value := anyText(d), anyText(d)
	switch kind := d.below(10); {
	case kind < puts:
		want := p.plain.put(key, value)
		p.plain.met[want]++
		checkPut(t, "any calls", p.Index, key, value, want)
	case kind < 8:
		there, e := p.Delete(key)
		if want, f := p.plain.delete(key); there != want || e != f {
			t.Errorf("any calls: Delete(%q) = %t, %d, want %t, %d", key, there, e, want, f)
		}
	default:
		v, there, e := p.Get(key)
		if want, is, f := p.plain.get(key); v != want || there != is || e != f {
			t.Errorf("any calls: Get(%q) = %q, %t, %d, want %q, %t, %d", key, v, there, e, want, is, f)
		}
	}
}

func (p pair) look(t *testing.T, handle int, lo string, hi string, limit int) {
	t.Helper()
	l, e := p.Scan(handle, lo, hi, limit)
	want, f := p.plain.scan(handle, lo, hi, limit)
	if !slices.Equal(l, want) || e != f {
		t.Errorf("any calls: Scan(%d, %q, %q, %d) = %q, %d, want %q, %d", handle, lo, hi, limit, l, e, want, f)
	}
	p.plain.met[f]++
	spoil(l)
}

func TestAnyCalls(t *testing.T) {
	d := dice(3)
	for _, o := range allOptions() {
		first, second := collatorOf(t, manyWaysTable, o), collatorOf(t, "d e1 61 301\nw 61 = 0.0.0\nw 62 = 0.0.0\n", o)
		met := map[api.Errno]int{}
		var pairs []pair
		for _, c := range []*collate.Collator{first, first, second} {
			pairs = append(pairs, pair{New(c), &plain{collator: c, met: met}})
		}
		for i := range 900 {
			p := pairs[d.below(len(pairs))]
			p.call(t, &d, 3+i/300*2)
			p.look(t, anyNumber(&d, 0), anyText(&d), anyText(&d), anyNumber(&d, 64))
			if i%20 == 0 {
				for _, p := range pairs {
					p.look(t, 0, "", "", math.MaxInt)
				}
			}
			if t.Failed() {
				return
			}
		}
		for _, e := range []api.Errno{api.OK, api.ErrLong, api.ErrFull, api.ErrHandle, api.ErrLimit} {
			if met[e] < 5 {
				t.Errorf("%v: the error %d was met %d times", o, e, met[e])
			}
		}
		if n := pairs[0].plain.anew + pairs[1].plain.anew; n < 50 {
			t.Errorf("%v: keys were put anew %d times", o, n)
		}
	}
}
