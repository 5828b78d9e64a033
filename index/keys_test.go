package index

import (
	"slices"
	"strings"
	"testing"

	"tome/api"
)

func TestExample6(t *testing.T) {
	x := open(t, exampleTable)
	checkPut(t, "example 6", x, "\xc3\xa1", "1", api.OK)
	checkPut(t, "example 6", x, "a\u0301", "2", api.OK)
	checkAll(t, "example 6", x, "\x61\xcc\x81", "2")
	checkSnapshot(t, "example 6", x, 1)
	checkDelete(t, "example 6", x, "\u00e1", true)
	checkGone(t, "example 6", x, "\u00e1")
	checkGone(t, "example 6", x, "a\u0301")
	checkAll(t, "example 6", x)
	checkScanOf(t, "example 6", x, 1, "", "", 9, entriesOf("\x61\xcc\x81", "2"))
	checkStored(t, "example 6", x, 1)
	checkRelease(t, "example 6", x, 1, api.OK)
	checkStored(t, "example 6", x, 0)
}

func TestNewIsEmpty(t *testing.T) {
	for _, o := range allOptions() {
		x := New(collatorOf(t, exampleTable, o))
		checkAll(t, "P10", x)
		checkStored(t, "P10", x, 0)
		for _, key := range []string{"", "a", "\xff", text(64)} {
			checkGone(t, "P10", x, key)
			checkDelete(t, "P10", x, key, false)
		}
		checkAll(t, "P10", x)
	}
}

// sameKeys are texts of manyWaysTable, each list of which is one key.
func sameKeys() [][]string {
	return [][]string{
		{"\u00e1", "a\u0301"},
		{"\u00c5", "\u00c6", "a\u0301\u0323", "a\u0323\u0301", "\u00e1\u0323", "\u1ea1\u0301"},
		{"-\u212b", "-ch"},
		{"a\xff", "a\ufffd", "a\x80", "a\xc3"},
	}
}

func TestOneKeyInManyWays(t *testing.T) {
	for _, o := range allOptions() {
		c := collatorOf(t, manyWaysTable, o)
		for _, same := range sameKeys() {
			for _, put := range same {
				for _, taken := range same {
					checkOneKey(t, New(c), same, put, taken)
				}
			}
		}
	}
}

func checkOneKey(t *testing.T, x *Index, same []string, put string, taken string) {
	t.Helper()
	checkPut(t, "P11", x, put, "1", api.OK)
	checkAll(t, "P10: the text is the one that was put", x, put, "1")
	for _, key := range same {
		checkThere(t, "P10: one key", x, key, "1")
	}
	checkPut(t, "P11: put again", x, taken, "2", api.OK)
	checkAll(t, "P11: another text and value", x, taken, "2")
	for _, key := range same {
		checkThere(t, "P10: one key", x, key, "2")
	}
	checkDelete(t, "P10: one key", x, put, true)
	checkAll(t, "P11: gone", x)
	for _, key := range same {
		checkGone(t, "P11: gone", x, key)
		checkDelete(t, "P11: gone", x, key, false)
	}
}

// No level tells these texts apart, but they are not the same key.
func TestTextsThatAreNotEqual(t *testing.T) {
	const table = exampleTable + "w 5f = 0.0.0\nw 41 = 10.20.2\n"
	for _, o := range allOptions() {
		x := New(collatorOf(t, table, o))
		for i, key := range []string{"a", "A", "a_", "_a", "a\x00", "a__"} {
			checkGone(t, "P10: a key of its own", x, key)
			checkPut(t, "P11", x, key, string(rune('0'+i)), api.OK)
		}
		checkThere(t, "P10: a key of its own", x, "a", "0")
		checkThere(t, "P10: a key of its own", x, "A", "1")
		checkDelete(t, "P10: a key of its own", x, "a_", true)
		checkThere(t, "P10: a key of its own", x, "_a", "3")
		checkThere(t, "P10: a key of its own", x, "a\x00", "4")
		checkThere(t, "P10: a key of its own", x, "a__", "5")
	}
}

func TestPutAgain(t *testing.T) {
	x := open(t, exampleTable)
	for i, key := range []string{"a", "\u00e1", "b"} {
		checkPut(t, "P11", x, key, string(rune('1'+i)), api.OK)
	}
	checkPut(t, "P11: the same text and value", x, "\u00e1", "2", api.OK)
	checkAll(t, "P11: the same text and value", x, "a", "1", "\u00e1", "2", "b", "3")
	checkPut(t, "P11: another value", x, "\u00e1", "4", api.OK)
	checkAll(t, "P11: another value", x, "a", "1", "\u00e1", "4", "b", "3")
	checkPut(t, "P11: another text", x, "a\u0301", "4", api.OK)
	checkAll(t, "P11: another text", x, "a", "1", "a\u0301", "4", "b", "3")
	checkPut(t, "P11: an empty value", x, "\u00e1", "", api.OK)
	checkAll(t, "P11: an empty value", x, "a", "1", "\u00e1", "", "b", "3")
	checkThere(t, "P11: an empty value", x, "a\u0301", "")
}

func TestDeleteTwice(t *testing.T) {
	x := open(t, exampleTable)
	for i, key := range []string{"b", "a", "\u00e1"} {
		checkPut(t, "P11", x, key, string(rune('1'+i)), api.OK)
	}
	for range 2 {
		checkDelete(t, "P11: the first time", x, "a\u0301", true)
		checkAll(t, "P11: gone", x, "a", "2", "b", "1")
		checkDelete(t, "P11: the second time", x, "\u00e1", false)
		checkGone(t, "P11: gone", x, "\u00e1")
		checkAll(t, "P11: gone", x, "a", "2", "b", "1")
		checkPut(t, "P11: put again behind that", x, "a\u0301", "4", api.OK)
		checkThere(t, "P11: put again behind that", x, "\u00e1", "4")
		checkAll(t, "P11: put again behind that", x, "a", "2", "a\u0301", "4", "b", "1")
	}
	checkDelete(t, "P11: the first key", x, "a", true)
	checkDelete(t, "P11: the last key", x, "b", true)
	checkAll(t, "P11", x, "a\u0301", "4")
}

func TestEmptyText(t *testing.T) {
	x := open(t, exampleTable)
	checkPut(t, "P11", x, "a", "1", api.OK)
	checkGone(t, "P11: the empty text", x, "")
	checkDelete(t, "P11: the empty text", x, "", false)
	checkPut(t, "P11: the empty text", x, "", "", api.OK)
	checkThere(t, "P11: the empty text", x, "", "")
	checkAll(t, "P11: the empty text", x, "", "", "a", "1")
	checkPut(t, "P11: the empty text", x, "", "2", api.OK)
	checkThere(t, "P11: the empty text", x, "", "2")
	checkAll(t, "P11: the empty text", x, "", "2", "a", "1")
	checkDelete(t, "P11: the empty text", x, "", true)
	checkGone(t, "P11: the empty text", x, "")
	checkAll(t, "P11: the empty text", x, "a", "1")
}

// longTexts are too long by their bytes, though not all by their runes, and
// one of them is equal to a text that is not.
func longTexts() []string {
	return []string{text(65), text(64) + "\xff", strings.Repeat("\u20ac", 22), strings.Repeat("a\u0301", 32), strings.Repeat("\U0010ffff", 17), text(1000)}
}

func TestLength(t *testing.T) {
	x := open(t, exampleTable)
	for _, full := range []string{text(64), strings.Repeat("\u00e1", 32), strings.Repeat("\xff", 64), strings.Repeat("\U0010ffff", 16)} {
		checkPut(t, "P11: 64 bytes", x, full, full, api.OK)
		checkThere(t, "P11: 64 bytes", x, full, full)
		checkScan(t, "P14: 64 bytes", x, full, "", 1, entriesOf(full, full))
		checkScan(t, "P14: 64 bytes", x, "", full, 64, nil)
		checkDelete(t, "P11: 64 bytes", x, full, true)
		checkGone(t, "P11: 64 bytes", x, full)
	}
	checkPut(t, "P11", x, text(64), "1", api.OK)
	checkPut(t, "P11", x, strings.Repeat("\u00e1", 32), "2", api.OK)
	for _, long := range longTexts() {
		checkTooLong(t, x, long)
		checkAll(t, "P1: nothing is changed", x, strings.Repeat("\u00e1", 32), "2", text(64), "1")
	}
}

func checkTooLong(t *testing.T, x *Index, long string) {
	t.Helper()
	checkPut(t, "P11: the key is too long", x, long, "", api.ErrLong)
	checkPut(t, "P11: the value is too long", x, "new", long, api.ErrLong)
	checkPut(t, "P11: the value is too long", x, text(64), long, api.ErrLong)
	checkPut(t, "P11: both are too long", x, long, long, api.ErrLong)
	if there, e := x.Delete(long); there || e != api.ErrLong {
		t.Errorf("P11, P1: Delete of %d bytes: %t, %d, want ErrLong", len(long), there, e)
	}
	if v, there, e := x.Get(long); v != "" || there || e != api.ErrLong {
		t.Errorf("P11, P1: Get of %d bytes: %q, %t, %d, want ErrLong", len(long), v, there, e)
	}
}

func TestFull(t *testing.T) {
	x := open(t, exampleTable)
	checkPut(t, "P11", x, "\u00e1", "1", api.OK)
	checkPut(t, "P11", x, "", "2", api.OK)
	fill(t, x, 63)
	checkPut(t, "P11: the 64th", x, "b", "3", api.OK)
	full := all(t, x)
	for _, key := range []string{"more", "ba", "a", "\xff", "zzz", text(64)} {
		checkPut(t, "P11: one more", x, key, "4", api.ErrFull)
		checkGone(t, "P1: nothing is changed", x, key)
		checkDelete(t, "P11: not there", x, key, false)
		checkPut(t, "P11: none has gone", x, key, "4", api.ErrFull)
	}
	for _, long := range longTexts() {
		checkPut(t, "P11: ErrLong is named first", x, long, "4", api.ErrLong)
		checkPut(t, "P11: ErrLong is named first", x, "more", long, api.ErrLong)
		checkPut(t, "P11: ErrLong is named first", x, "b", long, api.ErrLong)
	}
	checkScan(t, "P1: nothing is changed", x, "", "", 99, full)
	checkPut(t, "P11: a key that is there", x, "b", "5", api.OK)
	checkPut(t, "P11: a key that is there, written otherwise", x, "a\u0301", "6", api.OK)
	checkPut(t, "P11: a key that is there", x, "", "7", api.OK)
	checkThere(t, "P11", x, "b", "5")
	checkThere(t, "P11", x, "\u00e1", "6")
	checkThere(t, "P11", x, "", "7")
	if n := len(all(t, x)); n != 64 {
		t.Errorf("P11: %d keys, want 64", n)
	}
}

func TestRoomAgain(t *testing.T) {
	x := open(t, exampleTable)
	checkPut(t, "P11", x, "\u00e1", "1", api.OK)
	fill(t, x, 64)
	for range 100 {
		checkDelete(t, "P11", x, "a\u0301", true)
		checkDelete(t, "P11", x, "a\u0301", false)
		checkPut(t, "P11: room again", x, "more", "2", api.OK)
		checkPut(t, "P11: full again", x, "\u00e1", "3", api.ErrFull)
		checkThere(t, "P11", x, "more", "2")
		checkDelete(t, "P11", x, "more", true)
		checkPut(t, "P11: room again", x, "\u00e1", "4", api.OK)
		checkPut(t, "P11: full again", x, "more", "5", api.ErrFull)
	}
	for _, e := range all(t, x) {
		checkDelete(t, "P11", x, e.Key, true)
	}
	checkAll(t, "P11: all gone", x)
	fill(t, x, 64)
}

func TestIndexesOfOneCollator(t *testing.T) {
	c := collatorOf(t, exampleTable, api.Options{Strength: 3})
	x, y := New(c), New(c)
	checkPut(t, "P11", x, "a", "1", api.OK)
	checkPut(t, "P11", x, "b", "2", api.OK)
	checkGone(t, "P2: another index", y, "a")
	checkAll(t, "P2: another index", y)
	checkPut(t, "P11", y, "a", "3", api.OK)
	checkThere(t, "P2: another index", x, "a", "1")
	checkDelete(t, "P2: another index", y, "b", false)
	checkDelete(t, "P11", x, "a", true)
	checkThere(t, "P2: another index", y, "a", "3")
	fill(t, y, 64)
	checkPut(t, "P2: another index is full", x, "more", "4", api.OK)
	checkAll(t, "P2: another index", x, "b", "2", "more", "4")
	checkPut(t, "P11", y, "more", "5", api.ErrFull)
	checkAll(t, "P2: an index that came later", New(c))
}

func TestIndexesOfTwoCollators(t *testing.T) {
	x := open(t, exampleTable)
	y := open(t, "w 61 = 12.20.2\nw 62 = 11.20.2\n")
	for i, key := range []string{"a", "b", "\u00e1", "a\u0301"} {
		value := string(rune('1' + i))
		checkPut(t, "P11", x, key, value, api.OK)
		checkPut(t, "P11", y, key, value+value, api.OK)
	}
	checkAll(t, "P10: in the order of its collator", x, "a", "1", "a\u0301", "4", "b", "2")
	checkAll(t, "P10: in the order of its collator", y, "b", "22", "a", "11", "a\u0301", "44", "\u00e1", "33")
	checkDelete(t, "P11", y, "\u00e1", true)
	checkDelete(t, "P11", y, "a", true)
	checkThere(t, "P2: another index", x, "\u00e1", "4")
	checkThere(t, "P2: another index", x, "a", "1")
	checkThere(t, "P2: another index", y, "a\u0301", "44")
}

// An index and its collator do not touch one another.
func TestCollatorStays(t *testing.T) {
	c := collatorOf(t, exampleTable, api.Options{Strength: 3})
	before, _ := c.Elements("ch\u00e1-")
	x := New(c)
	for _, key := range []string{"ch", "cb", "\u00e1", "a-"} {
		checkPut(t, "P11", x, key, key, api.OK)
	}
	after, _ := c.Elements("ch\u00e1-")
	if !slices.Equal(before, after) {
		t.Errorf("P2: the collator answers %v, then %v", before, after)
	}
	for i := range after {
		after[i] = api.Element{Primary: 7}
	}
	checkAll(t, "P2", x, "\u00e1", "\u00e1", "a-", "a-", "cb", "cb", "ch", "ch")
}
