package index

import (
	"math"
	"runtime"
	"slices"
	"strconv"
	"sync"
	"testing"
	"time"

	"tome/api"
	"tome/collate"
)

// numbered is so many entries, each a key of its own.
func numbered(first int, count int) []api.Entry {
	var l []api.Entry
	for i := first; i < first+count; i++ {
		l = append(l, api.Entry{Key: "k" + strconv.Itoa(i), Value: "v" + strconv.Itoa(i)})
	}
	return l
}

func times(e api.Errno, count int) []api.Errno {
	return slices.Repeat([]api.Errno{e}, count)
}

func TestLoad(t *testing.T) {
	x := open(t, exampleTable)
	l := entriesOf("b", "1", text(65), "2", "\u00e1", "3", "a", text(65), "a\u0301", "4", "", "", text(65), text(65), "ch", "5")
	checkLoad(t, "P12", x, l, api.OK, api.ErrLong, api.OK, api.ErrLong, api.OK, api.OK, api.ErrLong, api.OK)
	checkAll(t, "P12", x, "", "", "a\u0301", "4", "b", "1", "ch", "5")
	checkStored(t, "P15", x, 4)
	checkLoad(t, "P12: some are there", x, entriesOf("\u00e1", "6", "cb", "7"), api.OK, api.OK)
	checkAll(t, "P12: some are there", x, "", "", "\u00e1", "6", "b", "1", "cb", "7", "ch", "5")
	checkThere(t, "P12", x, "a\u0301", "6")
	checkDelete(t, "P12", x, "cb", true)
}

func TestLoadOfFew(t *testing.T) {
	x := open(t, exampleTable)
	for _, l := range [][]api.Entry{nil, {}, make([]api.Entry, 0, 9)} {
		checkLoad(t, "P12: no entry", x, l)
		checkAll(t, "P12: no entry", x)
	}
	checkLoad(t, "P12: one entry", x, entriesOf("a", "1"), api.OK)
	checkAll(t, "P12: one entry", x, "a", "1")
	checkLoad(t, "P12: one entry that is wrong", x, entriesOf("a", text(65)), api.ErrLong)
	checkLoad(t, "P12: no entry, some keys", x, nil)
	checkAll(t, "P1: nothing is changed", x, "a", "1")
}

// Fewer entries than there are goroutines, as many, and more.
func TestLoadOfEveryCount(t *testing.T) {
	for count := range 64 {
		x := open(t, exampleTable)
		l := numbered(0, count)
		checkLoad(t, "P12", x, l, times(api.OK, count)...)
		if got := all(t, x); len(got) != count {
			t.Errorf("P12: %d entries, then %d keys", count, len(got))
		}
		for _, e := range l {
			checkThere(t, "P12", x, e.Key, e.Value)
		}
		checkStored(t, "P15", x, count)
	}
}

// Wherever in the list one is too long, the others are put.
func TestLoadWithOneTooLong(t *testing.T) {
	for _, wrong := range []api.Entry{{Key: text(65)}, {Value: text(65)}, {Key: text(65), Value: text(65)}} {
		for count := 1; count < 14; count++ {
			for place := range count {
				l, want := numbered(0, count), times(api.OK, count)
				l[place], want[place] = wrong, api.ErrLong
				x := open(t, exampleTable)
				checkLoad(t, "P12: one is too long", x, l, want...)
				for i, e := range l {
					if i != place {
						checkThere(t, "P12: the others", x, e.Key, e.Value)
					}
				}
				checkStored(t, "P12: the others", x, count-1)
			}
		}
	}
}

// The last one of a key is the one that is shown.
func TestLoadOfOneKeySeveralTimes(t *testing.T) {
	for count := 1; count < 40; count++ {
		x := open(t, exampleTable)
		var l []api.Entry
		for i := range count {
			l = append(l, api.Entry{Key: []string{"\u00e1", "a\u0301"}[i%3/2], Value: strconv.Itoa(i)})
		}
		checkLoad(t, "P12: one key", x, l, times(api.OK, count)...)
		checkAll(t, "P12: in the order of the list", x, l[count-1].Key, l[count-1].Value)
		checkStored(t, "P15", x, 1)
	}
}

func TestLoadOfMoreThanThereIsRoomFor(t *testing.T) {
	for there := 0; there <= 64; there += 8 {
		x := open(t, exampleTable)
		fill(t, x, there)
		room := 64 - there
		checkLoad(t, "P12: up to 64", x, numbered(0, room), times(api.OK, room)...)
		full := all(t, x)
		checkLoad(t, "P12: one more", x, numbered(100, 1), api.ErrFull)
		checkLoad(t, "P12: many more", x, numbered(100, 50), times(api.ErrFull, 50)...)
		checkScan(t, "P1: nothing is changed", x, "", "", 99, full)

		x = open(t, exampleTable)
		fill(t, x, there)
		want := append(times(api.OK, room), times(api.ErrFull, 66-room)...)
		checkLoad(t, "P12: 64 and some more", x, numbered(0, 66), want...)
		checkScan(t, "P12: 64 and some more", x, "", "", 99, full)
		checkStored(t, "P15", x, 64)
	}
}

func TestLoadIntoAFullIndex(t *testing.T) {
	x := open(t, exampleTable)
	checkPut(t, "P11", x, "\u00e1", "1", api.OK)
	fill(t, x, 64)
	checkSnapshot(t, "P13", x, 1)
	l := entriesOf("more", "2", "a\u0301", "3", text(65), "", "more", text(65), "\u00e1", "4", "other", "5")
	checkLoad(t, "P12: keys that are there", x, l, api.ErrFull, api.OK, api.ErrLong, api.ErrLong, api.OK, api.ErrFull)
	checkThere(t, "P12", x, "\u00e1", "4")
	checkGone(t, "P12", x, "more")
	checkStored(t, "P15: one is shown by none", x, 65)
	checkScanOf(t, "P13", x, 1, "", "", 1, entriesOf("\u00e1", "1"))
	checkScan(t, "P12", x, "", "", 1, entriesOf("\u00e1", "4"))
}

// putOneByOne is what Load is held against.
func putOneByOne(x *Index, l []api.Entry) []api.Errno {
	var answers []api.Errno
	for _, e := range l {
		answers = append(answers, x.Put(e.Key, e.Value))
	}
	return answers
}

func checkSame(t *testing.T, x *Index, y *Index, handles int) {
	t.Helper()
	for handle := range handles + 1 {
		want, f := y.Scan(handle, "", "", math.MaxInt)
		if l, e := x.Scan(handle, "", "", math.MaxInt); !slices.Equal(l, want) || e != f {
			t.Errorf("P12: Scan(%d) = %q, %d, by Puts %q, %d", handle, l, e, want, f)
		}
	}
	checkStored(t, "P12: as by Puts", x, y.Stored())
}

func TestLoadAgainstPuts(t *testing.T) {
	d := dice(5)
	for _, o := range allOptions() {
		c := collatorOf(t, manyWaysTable, o)
		for range 20 {
			x, y := New(c), New(c)
			for handles := range 9 {
				l := anyEntries(&d)
				got, want := x.Load(l), putOneByOne(y, l)
				if !slices.Equal(got, want) {
					t.Fatalf("P12: Load(%q) = %d, by Puts %d", l, got, want)
				}
				checkSame(t, x, y, handles)
				x.Snapshot()
				y.Snapshot()
			}
		}
	}
}

func TestLoadOfVeryMany(t *testing.T) {
	x := open(t, exampleTable)
	l := numbered(0, 20000)
	for i := range l {
		l[i].Key = "k" + strconv.Itoa(i%70)
	}
	for i, e := range x.Load(l) {
		want := api.OK
		if i%70 >= 64 {
			want = api.ErrFull
		}
		if e != want {
			t.Fatalf("P12: entry %d: %d, want %d", i, e, want)
		}
	}
	for i := range 64 {
		last := 19950 + i
		if last >= 20000 {
			last -= 70
		}
		checkThere(t, "P12: the last of each key", x, "k"+strconv.Itoa(i), "v"+strconv.Itoa(last))
	}
}

// How the goroutines run is not seen.
func TestLoadHoweverGoroutinesRun(t *testing.T) {
	defer runtime.GOMAXPROCS(runtime.GOMAXPROCS(0))
	d := dice(6)
	c := collatorOf(t, manyWaysTable, api.Options{Strength: 4, Shifted: true})
	var l []api.Entry
	for range 150 {
		l = append(l, api.Entry{Key: anyText(&d), Value: anyText(&d)})
	}
	y := New(c)
	want := putOneByOne(y, l)
	for _, processors := range []int{1, 2, 3, 8} {
		runtime.GOMAXPROCS(processors)
		for range 30 {
			x := New(c)
			if got := x.Load(l); !slices.Equal(got, want) {
				t.Fatalf("P12: Load = %d, by Puts %d", got, want)
			}
			checkSame(t, x, y, 0)
		}
	}
}

// A goroutine that has closed its channel may still need a moment to be gone.
func TestLoadLeavesNoGoroutine(t *testing.T) {
	x := open(t, exampleTable)
	before := runtime.NumGoroutine()
	for count := range 100 {
		x.Load(numbered(0, count))
		x.Load(slices.Repeat(entriesOf(text(65), ""), count))
	}
	for range 1000 {
		if runtime.NumGoroutine() <= before {
			return
		}
		time.Sleep(time.Millisecond)
	}
	t.Errorf("P1: %d goroutines, %d before Load", runtime.NumGoroutine(), before)
}

// handed is a list with spare room, both ahead of what is handed in and behind.
func handed(l []api.Entry) (whole []api.Entry, part []api.Entry) {
	whole = slices.Repeat([]api.Entry{{Key: "mine", Value: "mine"}}, len(l)+20)
	copy(whole[5:], l)
	return whole, whole[5 : 5+len(l)]
}

func TestLoadWritesNothingAndKeepsNothing(t *testing.T) {
	entries := entriesOf("b", "1", text(65), "2", "\u00e1", "3", "a\u0301", "4", "ch", "5", "a", text(65), "", "6")
	for count := range len(entries) + 1 {
		x, y := open(t, exampleTable), open(t, exampleTable)
		putOneByOne(y, entries[:count])
		whole, part := handed(entries[:count])
		was := slices.Clone(whole)
		x.Load(part)
		if !slices.Equal(whole, was) {
			t.Errorf("P2: Load wrote into what was handed in: %q, want %q", whole, was)
		}
		for i := range whole {
			whole[i] = trash()
		}
		checkSame(t, x, y, 0)
		x.Load(numbered(0, 10))
		checkPut(t, "P11", x, "a", "7", api.OK)
		if slices.ContainsFunc(whole, func(e api.Entry) bool { return e != trash() }) {
			t.Errorf("P2: a later call wrote into what was handed in: %q", whole)
		}
	}
}

func TestLoadAnswersNewMemory(t *testing.T) {
	x := open(t, exampleTable)
	var answers, copies [][]api.Errno
	for range 3 {
		for count := range 10 {
			l := append(numbered(0, count), entriesOf(text(65), "")...)
			answer := x.Load(l)
			answers = append(answers, answer)
			copies = append(copies, slices.Clone(answer))
		}
	}
	before := all(t, x)
	for i, l := range answers {
		spoil(l, 77)
		for k := i + 1; k < len(answers); k++ {
			if !slices.Equal(answers[k], copies[k]) {
				t.Errorf("P2: answer %d shows what was written into answer %d: %d", k, i, answers[k])
			}
		}
		checkLoad(t, "P2: a later call", x, entriesOf("k0", "v0", "k1", text(65)), api.OK, api.ErrLong)
		checkScan(t, "P2: the index", x, "", "", 99, before)
	}
}

// Indexes of one collator are loaded at the same time.
func TestLoadOfIndexesSideBySide(t *testing.T) {
	first := collatorOf(t, manyWaysTable, api.Options{Strength: 3})
	second := collatorOf(t, exampleTable, api.Options{Strength: 1, Shifted: true})
	d := dice(7)
	var group sync.WaitGroup
	for i := range 12 {
		c := []*collate.Collator{first, first, second}[i%3]
		var lists [][]api.Entry
		for range 20 {
			lists = append(lists, anyEntries(&d))
		}
		group.Go(func() {
			x, y := New(c), New(c)
			for _, l := range lists {
				if got, want := x.Load(l), putOneByOne(y, l); !slices.Equal(got, want) {
					t.Errorf("P2: Load(%q) = %d, by Puts %d", l, got, want)
				}
			}
			checkSame(t, x, y, 0)
		})
	}
	group.Wait()
}
