package index

import (
	"math"
	"slices"
	"strings"
	"testing"

	"tome/api"
)

// orderTable: 2010 is variable as - is, but less heavy; A is heavier than a in
// the third level, ~ than 301 in the second one.
const orderTable = exampleTable + `w 41 = 10.20.8
w 7e = 0.40.2
w 2010 = *2.20.2
`

// order is the keys of one set, in the order of the options.
type order struct {
	api.Options
	keys string
}

func orders() []order {
	return []order{
		{api.Options{Strength: 1}, "|-|-a|A|a|a~|á|a\u2010|a-|a-b|Ab|ab|ab\u0301|áb|b"},
		{api.Options{Strength: 2}, "|-|-a|A|a|á|a~|a\u2010|a-|a-b|Ab|ab|ab\u0301|áb|b"},
		{api.Options{Strength: 3}, "|-|-a|a|A|á|a~|a\u2010|a-|a-b|ab|Ab|ab\u0301|áb|b"},
		{api.Options{Strength: 4}, "|-|-a|a|A|á|a~|a\u2010|a-|a-b|ab|Ab|ab\u0301|áb|b"},
		{api.Options{Strength: 1, Shifted: true}, "|-|-a|A|a|a-|a~|á|a\u2010|Ab|a-b|ab|ab\u0301|áb|b"},
		{api.Options{Strength: 2, Shifted: true}, "|-|-a|A|a|a-|a\u2010|á|a~|Ab|a-b|ab|ab\u0301|áb|b"},
		{api.Options{Strength: 3, Shifted: true}, "|-|-a|a|a-|a\u2010|A|á|a~|a-b|ab|Ab|ab\u0301|áb|b"},
		{api.Options{Strength: 4, Shifted: true}, "|-|-a|a|a\u2010|a-|A|á|a~|a-b|ab|Ab|ab\u0301|áb|b"},
	}
}

// in gives each key a value by its place.
func (o order) in() []api.Entry {
	var l []api.Entry
	for i, key := range strings.Split(o.keys, "|") {
		l = append(l, api.Entry{Key: key, Value: string(rune('A' + i))})
	}
	return l
}

func TestOrder(t *testing.T) {
	d := dice(1)
	for _, o := range orders() {
		c := collatorOf(t, orderTable, o.Options)
		want := o.in()
		puts := slices.Clone(want)
		for range 40 {
			slices.Reverse(puts)
			x := New(c)
			for _, e := range puts {
				checkPut(t, "P11", x, e.Key, e.Value, api.OK)
			}
			checkScan(t, "P14, P10: whatever the order of the calls", x, "", "", 99, want)
			d.shuffle(puts)
		}
	}
}

// Each key is a bound, too, on each side.
func TestBounds(t *testing.T) {
	for _, o := range orders() {
		x := New(collatorOf(t, orderTable, o.Options))
		l := o.in()
		for _, e := range l {
			checkPut(t, "P11", x, e.Key, e.Value, api.OK)
		}
		for i, lo := range l {
			checkScan(t, "P14: no upper bound", x, lo.Key, "", 99, l[i:])
			for k, hi := range l[1:] {
				checkScan(t, "P14: bounds", x, lo.Key, hi.Key, 99, l[min(i, k+1):k+1])
			}
		}
	}
}

func TestBoundsThatAreNoKeys(t *testing.T) {
	x := open(t, exampleTable)
	for _, key := range []string{"ch", "b", "\u00e1", "a-b"} {
		checkPut(t, "P11", x, key, "v", api.OK)
	}
	want := entriesOf("\u00e1", "v", "a-b", "v", "b", "v", "ch", "v")
	for _, c := range []struct {
		lo, hi   string
		from, to int
	}{
		{"", "a", 0, 0},
		{"", "a-", 0, 1},
		{"a", "", 0, 4},
		{"a", "ab", 0, 2},
		{"a-a", "ba", 1, 3},
		{"cb", "", 3, 4},
		{"c", "chb", 3, 4},
		{"z", "", 4, 4},
		{"", "z", 0, 4},
		{"\U0010ffff", "\x00", 0, 0},
		{"-", "", 0, 4},
		{"ba", "cb", 3, 3},
	} {
		checkScan(t, "P14: bounds that are no keys", x, c.lo, c.hi, 99, want[c.from:c.to])
	}
}

func TestBoundsOnTheEmptyText(t *testing.T) {
	x := open(t, exampleTable)
	checkScan(t, "P14: nothing there", x, "", "", 99, nil)
	checkPut(t, "P11", x, "", "1", api.OK)
	checkPut(t, "P11", x, "a", "2", api.OK)
	checkScan(t, "P14: the empty text as lo", x, "", "", 99, entriesOf("", "1", "a", "2"))
	checkScan(t, "P14: the empty text as lo", x, "", "a", 99, entriesOf("", "1"))
	checkScan(t, "P14: the empty text as hi is no bound", x, "a", "", 99, entriesOf("a", "2"))
	checkScan(t, "P14: no text is less than the empty one but itself", x, "-", "", 99, entriesOf("a", "2"))
}

func TestBoundsWrittenOtherwise(t *testing.T) {
	for _, o := range allOptions() {
		c := collatorOf(t, manyWaysTable, o)
		for _, same := range sameKeys() {
			for _, key := range same {
				x := New(c)
				checkPut(t, "P11", x, key, "1", api.OK)
				for i, bound := range same {
					checkScan(t, "P14: not less than lo", x, bound, "", 99, entriesOf(key, "1"))
					checkScan(t, "P14: not less than hi", x, "", bound, 99, nil)
					checkScan(t, "P14: bounds that are equal", x, bound, same[len(same)-1-i], 99, nil)
				}
			}
		}
	}
}

func TestBoundsTheWrongWayRound(t *testing.T) {
	x := open(t, exampleTable)
	for _, key := range []string{"a", "\u00e1", "b", "cb", "ch"} {
		checkPut(t, "P11", x, key, "v", api.OK)
	}
	for _, c := range [][2]string{{"b", "a"}, {"ch", "a"}, {"z", "a"}, {"\u00e1", "a"}, {"ch", "cb"}, {"z", "y"}, {"a", "-"}} {
		checkScan(t, "P14: the wrong way round", x, c[0], c[1], 99, nil)
		checkScan(t, "P14: the wrong way round", x, c[0], c[1], 0, nil)
	}
}

func TestLimits(t *testing.T) {
	x := open(t, exampleTable)
	for _, limit := range []int{0, 1, 64, math.MaxInt} {
		checkScan(t, "P14: nothing there", x, "", "", limit, nil)
	}
	want := entriesOf("a", "1", "\u00e1", "2", "b", "3", "cb", "4", "ch", "5")
	for _, e := range want {
		checkPut(t, "P11", x, e.Key, e.Value, api.OK)
	}
	for _, limit := range []int{0, 1, 2, 4, 5, 6, 63, 64, 65, math.MaxInt32, math.MaxInt - 1, math.MaxInt} {
		checkScan(t, "P14: limit", x, "", "", limit, want[:min(limit, 5)])
		checkScan(t, "P14: limit behind a bound", x, "a\u0301", "ch", limit, want[1:min(limit, 3)+1])
		checkScan(t, "P14: limit behind a bound", x, "ch", "", limit, want[4:min(limit, 1)+4])
		checkScan(t, "P14: limit behind all", x, "z", "", limit, nil)
	}
	fill(t, x, 64)
	for _, limit := range []int{0, 1, 63, 64, 65, math.MaxInt} {
		if l, e := x.Scan(0, "", "", limit); len(l) != min(limit, 64) || e != api.OK {
			t.Errorf("P14: 64 keys, limit %d: %d of them, %d", limit, len(l), e)
		}
	}
}

func TestScanErrors(t *testing.T) {
	x := open(t, exampleTable)
	for _, keys := range [][]string{nil, {"a", "b", text(64)}} {
		for _, key := range keys {
			checkPut(t, "P11", x, key, "v", api.OK)
		}
		before := all(t, x)
		for _, handle := range []int{1, 2, 8, 9, 64, math.MaxInt, -1, -8, math.MinInt} {
			checkRefused(t, "P14: not held", x, handle, "", "", 9, api.ErrHandle)
			checkRefused(t, "P14: ErrHandle is named first", x, handle, text(65), "", 9, api.ErrHandle)
			checkRefused(t, "P14: ErrHandle is named first", x, handle, "", text(65), -1, api.ErrHandle)
			checkRefused(t, "P14: ErrHandle is named first", x, handle, "", "", -1, api.ErrHandle)
		}
		for _, long := range longTexts() {
			checkRefused(t, "P14: lo is too long", x, 0, long, "", 9, api.ErrLong)
			checkRefused(t, "P14: hi is too long", x, 0, "", long, 9, api.ErrLong)
			checkRefused(t, "P14: both are too long", x, 0, long, long, 0, api.ErrLong)
			checkRefused(t, "P14: ErrLong is named ahead of ErrLimit", x, 0, long, "", -1, api.ErrLong)
			checkRefused(t, "P14: ErrLong is named ahead of ErrLimit", x, 0, "", long, math.MinInt, api.ErrLong)
			checkRefused(t, "P14: though nothing is asked for", x, 0, "b", long, 0, api.ErrLong)
		}
		for _, limit := range []int{-1, -2, -64, math.MinInt32, math.MinInt} {
			checkRefused(t, "P14: limit", x, 0, "", "", limit, api.ErrLimit)
			checkRefused(t, "P14: limit", x, 0, "b", "a", limit, api.ErrLimit)
		}
		checkScan(t, "P1: nothing is changed", x, "", "", 99, before)
	}
}

// Answers of many calls are spoilt one after the other, and none of the others
// may show it, nor the index.
func TestAnswersAreNewMemory(t *testing.T) {
	x := open(t, exampleTable)
	want := entriesOf("a", "1", "\u00e1", "2", "b", "3", "cb", "4", "ch", "5")
	for _, e := range want {
		checkPut(t, "P11", x, e.Key, e.Value, api.OK)
	}
	type asked struct {
		lo, hi string
		limit  int
	}
	var answers, copies [][]api.Entry
	for range 2 {
		for _, a := range []asked{{"", "", 99}, {"", "", 2}, {"", "", 0}, {"\u00e1", "ch", 99}, {"a", "b", 1}, {"b", "a", 9}, {"ch", "", 1}} {
			l, _ := x.Scan(0, a.lo, a.hi, a.limit)
			answers = append(answers, l)
			copies = append(copies, slices.Clone(l))
		}
	}
	for i, l := range answers {
		spoil(l, trash())
		for k := i + 1; k < len(answers); k++ {
			if !slices.Equal(answers[k], copies[k]) {
				t.Errorf("P2: answer %d shows what was written into answer %d: %q", k, i, answers[k])
			}
		}
		checkScan(t, "P2: the index", x, "", "", 99, want)
		checkThere(t, "P2: the index", x, "a\u0301", "2")
	}
}

func TestAnswersStay(t *testing.T) {
	x := open(t, exampleTable)
	checkPut(t, "P11", x, "a", "1", api.OK)
	checkPut(t, "P11", x, "b", "2", api.OK)
	before := all(t, x)
	checkPut(t, "P11", x, "a", "3", api.OK)
	checkPut(t, "P11", x, "\u00e1", "4", api.OK)
	checkDelete(t, "P11", x, "b", true)
	if want := entriesOf("a", "1", "b", "2"); !slices.Equal(before, want) {
		t.Errorf("P2: an answer that was given is %q, want %q", before, want)
	}
}
