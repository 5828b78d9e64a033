package index

import (
	"math"
	"slices"
	"testing"

	"tome/api"
	"tome/collate"
)

// dice is the same row of numbers at every run.
type dice uint64

func (d *dice) below(n int) int {
	*d = *d*6364136223846793005 + 1442695040888963407
	return int(uint64(*d)>>33) % n
}

func (d *dice) of(l ...string) string { return l[d.below(len(l))] }

func (d *dice) shuffle(l []api.Entry) {
	for i := range l {
		k := i + d.below(len(l)-i)
		l[i], l[k] = l[k], l[i]
	}
}

// kept is an entry and the number of the Put that it came by.
type kept struct {
	api.Entry
	number int
}

// plain is what the document says of an index, told another way: entries in
// the order in which they were put, each held against the collator anew, and
// whole copies of them for the snapshots.
type plain struct {
	collator *collate.Collator
	entries  []kept
	held     map[int][]kept
	given    int
	puts     int
	met      map[api.Errno]int
	anew     int
	refused  int
}

func plainOf(c *collate.Collator) *plain {
	return &plain{collator: c, held: map[int][]kept{}, met: map[api.Errno]int{}}
}

func (p *plain) isLong(texts ...string) bool {
	return slices.ContainsFunc(texts, func(s string) bool { return len(s) > 64 })
}

func (p *plain) at(key string) int {
	normal, _ := p.collator.Normal(key)
	return slices.IndexFunc(p.entries, func(e kept) bool {
		other, _ := p.collator.Normal(e.Key)
		return slices.Equal(normal, other)
	})
}

func (p *plain) put(key string, value string) api.Errno {
	if p.isLong(key, value) {
		return api.ErrLong
	}
	i := p.at(key)
	if i < 0 && len(p.entries) == 64 {
		return api.ErrFull
	}
	if i >= 0 {
		p.entries = slices.Delete(p.entries, i, i+1)
		p.anew++
	}
	p.puts++
	p.entries = append(p.entries, kept{api.Entry{Key: key, Value: value}, p.puts})
	return api.OK
}

func (p *plain) load(l []api.Entry) []api.Errno {
	var answers []api.Errno
	for _, e := range l {
		answers = append(answers, p.put(e.Key, e.Value))
	}
	return answers
}

func (p *plain) delete(key string) (bool, api.Errno) {
	if p.isLong(key) {
		return false, api.ErrLong
	}
	i := p.at(key)
	if i >= 0 {
		p.entries = slices.Delete(p.entries, i, i+1)
	}
	return i >= 0, api.OK
}

func (p *plain) get(key string) (string, bool, api.Errno) {
	if p.isLong(key) {
		return "", false, api.ErrLong
	}
	if i := p.at(key); i >= 0 {
		return p.entries[i].Value, true, api.OK
	}
	return "", false, api.OK
}

func (p *plain) snapshot() (int, api.Errno) {
	if len(p.held) == 8 {
		p.refused++
		return 0, api.ErrFull
	}
	p.given++
	p.held[p.given] = slices.Clone(p.entries)
	return p.given, api.OK
}

func (p *plain) release(handle int) api.Errno {
	if _, is := p.held[handle]; !is {
		return api.ErrHandle
	}
	delete(p.held, handle)
	return api.OK
}

func (p *plain) stored() int {
	numbers := map[int]bool{}
	for _, e := range p.entries {
		numbers[e.number] = true
	}
	for _, l := range p.held {
		for _, e := range l {
			numbers[e.number] = true
		}
	}
	return len(numbers)
}

func (p *plain) scan(handle int, lo string, hi string, limit int) ([]api.Entry, api.Errno) {
	shown, is := p.held[handle]
	if handle == 0 {
		shown, is = p.entries, true
	}
	switch {
	case !is:
		return nil, api.ErrHandle
	case p.isLong(lo, hi):
		return nil, api.ErrLong
	case limit < 0:
		return nil, api.ErrLimit
	}
	var l []api.Entry
	for _, e := range shown {
		if p.compare(e.Key, lo) >= 0 && (hi == "" || p.compare(e.Key, hi) < 0) {
			l = append(l, e.Entry)
		}
	}
	slices.SortFunc(l, func(a api.Entry, b api.Entry) int { return p.compare(a.Key, b.Key) })
	return l[:min(len(l), limit)], api.OK
}

func (p *plain) compare(a string, b string) int {
	n, _ := p.collator.Compare(a, b)
	return n
}

// anyText is mostly short, so that keys are met again, and some are too long.
func anyText(d *dice) string {
	if d.below(25) == 0 {
		return text(62 + d.below(5))
	}
	s := ""
	for range d.below(4) {
		s += d.of("a", "b", "c", "ch", "-", "z", "\xff", "\U0010ffff", "\u00e1", "\u1ea1", "\u0301", "\u0323")
	}
	return s
}

func anyNumber(d *dice, usual int) int {
	if d.below(6) > 0 {
		return usual
	}
	return []int{0, 1, -1, 2, 8, 64, math.MaxInt, math.MinInt, -64}[d.below(9)]
}

func anyEntries(d *dice) []api.Entry {
	var l []api.Entry
	for range []int{0, 1, 2, 3, 4, 5, 8, 13, 40}[d.below(9)] {
		l = append(l, api.Entry{Key: anyText(d), Value: anyText(d)})
	}
	return l
}

// pair is an index and what it is to answer.
type pair struct {
	*Index
	plain *plain
}

func pairOf(c *collate.Collator) pair { return pair{New(c), plainOf(c)} }

func (p pair) put(t *testing.T, key string, value string) {
	t.Helper()
	want := p.plain.put(key, value)
	p.plain.met[want]++
	checkPut(t, "any calls", p.Index, key, value, want)
}

func (p pair) load(t *testing.T, l []api.Entry) {
	t.Helper()
	handed := slices.Clone(l)
	answers := p.Load(handed)
	if want := p.plain.load(l); !slices.Equal(answers, want) {
		t.Errorf("any calls: Load(%q) = %d, want %d", l, answers, want)
	}
	if !slices.Equal(handed, l) {
		t.Errorf("any calls: Load wrote into %q: %q", l, handed)
	}
	spoil(handed, trash())
	spoil(answers, -1)
}

func (p pair) delete(t *testing.T, key string) {
	t.Helper()
	there, e := p.Delete(key)
	if want, f := p.plain.delete(key); there != want || e != f {
		t.Errorf("any calls: Delete(%q) = %t, %d, want %t, %d", key, there, e, want, f)
	}
}

func (p pair) get(t *testing.T, key string) {
	t.Helper()
	v, there, e := p.Get(key)
	if want, is, f := p.plain.get(key); v != want || there != is || e != f {
		t.Errorf("any calls: Get(%q) = %q, %t, %d, want %q, %t, %d", key, v, there, e, want, is, f)
	}
}

func (p pair) snapshot(t *testing.T) {
	t.Helper()
	handle, e := p.Snapshot()
	if want, f := p.plain.snapshot(); handle != want || e != f {
		t.Errorf("any calls: Snapshot() = %d, %d, want %d, %d", handle, e, want, f)
	}
}

func (p pair) release(t *testing.T, handle int) {
	t.Helper()
	checkRelease(t, "any calls", p.Index, handle, p.plain.release(handle))
}

func (p pair) look(t *testing.T, handle int, lo string, hi string, limit int) {
	t.Helper()
	l, e := p.Scan(handle, lo, hi, limit)
	want, f := p.plain.scan(handle, lo, hi, limit)
	if !slices.Equal(l, want) || e != f {
		t.Errorf("any calls: Scan(%d, %q, %q, %d) = %q, %d, want %q, %d", handle, lo, hi, limit, l, e, want, f)
	}
	p.plain.met[f]++
	spoil(l, trash())
}

// lookAtAll also asks for handles that are not held.
func (p pair) lookAtAll(t *testing.T) {
	t.Helper()
	for handle := -1; handle <= p.plain.given+1; handle++ {
		p.look(t, handle, "", "", math.MaxInt)
	}
	checkStored(t, "any calls", p.Index, p.plain.stored())
}

// anyHandle is mostly one of the last ten.
func (p pair) anyHandle(d *dice) int {
	return anyNumber(d, p.plain.given-d.below(10))
}

// call puts the more the greater the number is, 3 to 7.
func (p pair) call(t *testing.T, d *dice, puts int) {
	t.Helper()
	switch kind := d.below(16); {
	case kind < puts:
		p.put(t, anyText(d), anyText(d))
	case kind < 8:
		p.delete(t, anyText(d))
	case kind < 10:
		p.get(t, anyText(d))
	case kind < 11:
		p.load(t, anyEntries(d))
	case kind < 13:
		p.snapshot(t)
	default:
		p.release(t, p.anyHandle(d))
	}
}

func TestAnyCalls(t *testing.T) {
	d := dice(3)
	for _, o := range allOptions() {
		first, second := collatorOf(t, manyWaysTable, o), collatorOf(t, "d e1 61 301\nw 61 = 0.0.0\nw 62 = 0.0.0\n", o)
		pairs := []pair{pairOf(first), pairOf(first), pairOf(second)}
		for i := range 750 {
			p := pairs[d.below(len(pairs))]
			p.call(t, &d, 3+i/250*2)
			p.look(t, p.anyHandle(&d), anyText(&d), anyText(&d), anyNumber(&d, 64))
			checkStored(t, "any calls", p.Index, p.plain.stored())
			if i%30 == 0 {
				for _, p := range pairs {
					p.lookAtAll(t)
				}
			}
			if t.Failed() {
				return
			}
		}
		checkMet(t, o, pairs)
	}
}

// checkMet holds the test itself to having met what it is for.
func checkMet(t *testing.T, o api.Options, pairs []pair) {
	t.Helper()
	met, anew, given, refused := map[api.Errno]int{}, 0, 0, 0
	for _, p := range pairs {
		for e, n := range p.plain.met {
			met[e] += n
		}
		anew += p.plain.anew
		given += p.plain.given
		refused += p.plain.refused
	}
	for _, e := range []api.Errno{api.OK, api.ErrLong, api.ErrFull, api.ErrHandle, api.ErrLimit} {
		if met[e] < 5 {
			t.Errorf("%v: the error %d was met %d times", o, e, met[e])
		}
	}
	if anew < 50 || given < 40 || refused < 5 {
		t.Errorf("%v: %d keys were put anew, %d snapshots given, %d refused", o, anew, given, refused)
	}
}
