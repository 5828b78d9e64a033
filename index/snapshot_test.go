package index

import (
	"math"
	"slices"
	"testing"

	"tome/api"
)

// grown has five snapshots, with what each of them and now is to show.
func grown(t *testing.T) (*Index, [][]string) {
	t.Helper()
	x := open(t, exampleTable)
	checkSnapshot(t, "P13", x, 1)
	checkLoad(t, "P12", x, entriesOf("\u00e1", "1", "b", "2"), api.OK, api.OK)
	checkSnapshot(t, "P13", x, 2)
	checkPut(t, "P11", x, "a\u0301", "3", api.OK)
	checkPut(t, "P11: shown by none", x, "ch", "4", api.OK)
	checkPut(t, "P11", x, "ch", "5", api.OK)
	checkSnapshot(t, "P13", x, 3)
	checkSnapshot(t, "P13: nothing between", x, 4)
	checkDelete(t, "P11", x, "\u00e1", true)
	checkPut(t, "P11: the same text and value", x, "b", "2", api.OK)
	checkPut(t, "P11: shown by none", x, "z", "6", api.OK)
	checkDelete(t, "P11: shown by none", x, "z", true)
	checkSnapshot(t, "P13", x, 5)
	checkLoad(t, "P12", x, entriesOf("\u00e1", "1", "", "7", "ch", "8"), api.OK, api.OK, api.OK)
	checkDelete(t, "P11", x, "b", true)
	return x, [][]string{
		{"", "7", "\u00e1", "1", "ch", "8"},
		{},
		{"\u00e1", "1", "b", "2"},
		{"a\u0301", "3", "b", "2", "ch", "5"},
		{"a\u0301", "3", "b", "2", "ch", "5"},
		{"b", "2", "ch", "5"},
	}
}

// shownOf names the versions of each list that grown answers.
func shownOf() []string { return []string{"hij", "", "ab", "cbe", "cbe", "fe"} }

func countNamed(held []int) int {
	named := map[rune]bool{}
	for _, handle := range append([]int{0}, held...) {
		for _, r := range shownOf()[handle] {
			named[r] = true
		}
	}
	return len(named)
}

func TestSnapshotsShowWhatWasThere(t *testing.T) {
	x, want := grown(t)
	for range 2 {
		for handle, words := range want {
			checkShown(t, "P13", x, handle, words...)
		}
	}
	checkStored(t, "P15", x, 8)
}

// ordersOf answers every order in which numbers can stand.
func ordersOf(numbers []int) [][]int {
	if len(numbers) == 0 {
		return [][]int{nil}
	}
	var l [][]int
	for i, n := range numbers {
		for _, rest := range ordersOf(slices.Delete(slices.Clone(numbers), i, i+1)) {
			l = append(l, append([]int{n}, rest...))
		}
	}
	return l
}

func TestReleaseInEveryOrder(t *testing.T) {
	for _, order := range ordersOf([]int{1, 2, 3, 4, 5}) {
		x, want := grown(t)
		for i, released := range order {
			checkRelease(t, "P13", x, released, api.OK)
			checkRelease(t, "P13: released twice", x, released, api.ErrHandle)
			for _, gone := range order[:i+1] {
				checkRefused(t, "P14: released", x, gone, "", "", 9, api.ErrHandle)
			}
			for _, handle := range order[i+1:] {
				checkShown(t, "P13: still held", x, handle, want[handle]...)
			}
			checkShown(t, "P13: now", x, 0, want[0]...)
			checkStored(t, "P15", x, countNamed(order[i+1:]))
		}
		checkStored(t, "P15: as many as there are keys", x, 3)
		checkSnapshot(t, "P13: never the same again", x, 6)
		if t.Failed() {
			t.Fatalf("released in the order %d", order)
		}
	}
}

// What is shown goes on being shown, whatever comes behind it.
func TestSnapshotStays(t *testing.T) {
	x := open(t, exampleTable)
	checkPut(t, "P11", x, "a", "1", api.OK)
	checkPut(t, "P11", x, "\u00e1", "2", api.OK)
	checkPut(t, "P11", x, "ch", "3", api.OK)
	checkSnapshot(t, "P13", x, 1)
	then := []string{"a", "1", "\u00e1", "2", "ch", "3"}
	calls := []func(){
		func() { checkPut(t, "P11: ahead of all", x, "", "4", api.OK) },
		func() { checkPut(t, "P11: behind all", x, "z", "4", api.OK) },
		func() { checkPut(t, "P11: between", x, "b", "4", api.OK) },
		func() { checkPut(t, "P11: another value", x, "a", "4", api.OK) },
		func() { checkPut(t, "P11: another text", x, "a\u0301", "2", api.OK) },
		func() { checkDelete(t, "P11: the first", x, "", true) },
		func() { checkDelete(t, "P11", x, "a", true) },
		func() { checkDelete(t, "P11: the last", x, "z", true) },
		func() { checkPut(t, "P11: put again", x, "a", "5", api.OK) },
		func() { fill(t, x, 64) },
		func() { checkPut(t, "P11: full", x, "one more", "6", api.ErrFull) },
		func() { checkLoad(t, "P12", x, entriesOf("ch", "7", "one more", "7"), api.OK, api.ErrFull) },
		func() { checkSnapshot(t, "P13", x, 2) },
		func() { checkRelease(t, "P13", x, 2, api.OK) },
		func() {
			for _, e := range all(t, x) {
				checkDelete(t, "P11: all", x, e.Key, true)
			}
		},
		func() { checkStored(t, "P15: gone now, but shown by a snapshot", x, 3) },
	}
	for i, call := range calls {
		call()
		checkShown(t, "P13", x, 1, then...)
		if t.Failed() {
			t.Fatalf("behind call %d", i)
		}
	}
	checkAll(t, "P11", x)
	checkRelease(t, "P13", x, 1, api.OK)
	checkStored(t, "P15: nothing is shown", x, 0)
}

func TestPutAgainBetweenSnapshots(t *testing.T) {
	x := open(t, exampleTable)
	checkPut(t, "P11", x, "a", "1", api.OK)
	checkSnapshot(t, "P13", x, 1)
	checkStored(t, "P15: now and by a snapshot", x, 1)
	checkDelete(t, "P11", x, "a", true)
	checkStored(t, "P15: by a snapshot alone", x, 1)
	checkPut(t, "P11: the same text and value again", x, "a", "1", api.OK)
	checkStored(t, "P15: a version of its own", x, 2)
	checkSnapshot(t, "P13", x, 2)
	checkPut(t, "P11: the same text and value anew", x, "a", "1", api.OK)
	checkStored(t, "P15: a version of its own", x, 3)
	checkPut(t, "P11: the same text and value anew", x, "a", "1", api.OK)
	checkStored(t, "P15: one is shown by none", x, 3)
	for handle := range 3 {
		checkShown(t, "P13", x, handle, "a", "1")
	}
	checkRelease(t, "P13", x, 1, api.OK)
	checkStored(t, "P15", x, 2)
	checkDelete(t, "P11", x, "a", true)
	checkStored(t, "P15", x, 1)
	checkSnapshot(t, "P13: a snapshot of a key that is gone", x, 3)
	checkShown(t, "P13", x, 2, "a", "1")
	checkShown(t, "P13", x, 3)
	checkStored(t, "P15: that it is gone is not counted", x, 1)
	checkDelete(t, "P11: gone already", x, "a", false)
	checkRelease(t, "P13", x, 2, api.OK)
	checkStored(t, "P15", x, 0)
	checkShown(t, "P13", x, 3)
}

func TestTwoSnapshotsOfOneVersion(t *testing.T) {
	x := open(t, exampleTable)
	checkPut(t, "P11", x, "\u00e1", "1", api.OK)
	for handle := 1; handle <= 8; handle++ {
		checkSnapshot(t, "P13", x, handle)
		checkStored(t, "P15: counts once", x, 1)
	}
	checkDelete(t, "P11", x, "a\u0301", true)
	for handle := 1; handle <= 8; handle++ {
		checkStored(t, "P15: counts once", x, 1)
		checkShown(t, "P13", x, handle, "\u00e1", "1")
		checkRelease(t, "P13", x, handle, api.OK)
	}
	checkStored(t, "P15", x, 0)
}

// A version that is shown by the first and the last snapshot, and a key that
// was there in none.
func TestStoredOfMany(t *testing.T) {
	x := open(t, exampleTable)
	checkPut(t, "P11", x, "a", "stays", api.OK)
	for handle := 1; handle <= 8; handle++ {
		checkPut(t, "P11", x, "b", string(rune('0'+handle)), api.OK)
		checkSnapshot(t, "P13", x, handle)
		checkPut(t, "P11: there in no snapshot", x, "ch", "1", api.OK)
		checkStored(t, "P15", x, 2+handle)
		checkDelete(t, "P11: there in no snapshot", x, "ch", true)
		checkStored(t, "P15: shown by none", x, 1+handle)
	}
	for handle := 1; handle <= 8; handle++ {
		checkShown(t, "P13", x, handle, "a", "stays", "b", string(rune('0'+handle)))
	}
	for i, handle := range []int{4, 1, 8, 2, 6, 5, 7, 3} {
		checkRelease(t, "P13", x, handle, api.OK)
		want := 8 - i
		if i >= 2 { // what the last snapshot shows is still there now
			want++
		}
		checkStored(t, "P15", x, want)
	}
}

func TestAllAnewUnderEachSnapshot(t *testing.T) {
	x := open(t, exampleTable)
	var keys []string
	for i := range 64 {
		keys = append(keys, string([]byte{'k', byte('0' + i/10), byte('0' + i%10)}))
	}
	want := make([][]string, 10)
	for round := 1; round <= 9; round++ {
		for _, key := range keys {
			checkPut(t, "P11: 64 keys", x, key, string(rune('0'+round)), api.OK)
			want[round] = append(want[round], key, string(rune('0'+round)))
		}
		checkStored(t, "P15: 64 in each", x, 64*round)
		if round < 9 {
			checkSnapshot(t, "P13", x, round)
		}
	}
	checkPut(t, "P11", x, "one more", "", api.ErrFull)
	checkNoSnapshot(t, "P13", x)
	checkAll(t, "P14", x, want[9]...)
	for i, handle := range []int{3, 8, 1, 2, 7, 4, 6, 5} {
		checkShown(t, "P13", x, handle, want[handle]...)
		checkRelease(t, "P13", x, handle, api.OK)
		checkStored(t, "P15", x, 64*(8-i))
	}
	checkAll(t, "P14", x, want[9]...)
}

// Keys that snapshots alone show take no room.
func TestRoomUnderSnapshots(t *testing.T) {
	x := open(t, exampleTable)
	fill(t, x, 64)
	first := all(t, x)
	checkSnapshot(t, "P13", x, 1)
	checkPut(t, "P11", x, "a", "1", api.ErrFull)
	for _, e := range first {
		checkDelete(t, "P11", x, e.Key, true)
	}
	for i := range 64 {
		checkPut(t, "P11: room again", x, "other"+string(rune('0'+i)), "2", api.OK)
	}
	checkPut(t, "P11: a key of the snapshot is not there now", x, first[0].Key, "3", api.ErrFull)
	checkStored(t, "P15", x, 128)
	checkScanOf(t, "P13", x, 1, "", "", 64, first)
}

func TestEightSnapshots(t *testing.T) {
	x := open(t, exampleTable)
	for handle := 1; handle <= 8; handle++ {
		checkSnapshot(t, "P13", x, handle)
	}
	given := 8
	for _, released := range []int{3, 8, 1, 9, 11, 2, 4, 5, 6, 7, 10, 12} {
		for range 3 {
			checkNoSnapshot(t, "P13: one more than 8", x)
		}
		checkRefused(t, "P13: none was given", x, given+1, "", "", 9, api.ErrHandle)
		checkRelease(t, "P13: none was given", x, given+1, api.ErrHandle)
		checkRelease(t, "P13", x, released, api.OK)
		given++
		checkSnapshot(t, "P13: room again, and a refused call takes no number", x, given)
		checkRelease(t, "P13: never the same again", x, released, api.ErrHandle)
	}
}

func TestHandlesNeverTheSame(t *testing.T) {
	x := open(t, exampleTable)
	for handle := 1; handle <= 300; handle++ {
		checkSnapshot(t, "P13: though none is held", x, handle)
		checkShown(t, "P13", x, handle)
		checkRelease(t, "P13", x, handle, api.OK)
		checkRelease(t, "P13: released twice", x, handle, api.ErrHandle)
		checkRefused(t, "P14: released", x, handle, "", "", 9, api.ErrHandle)
	}
}

func TestReleaseErrors(t *testing.T) {
	x := open(t, exampleTable)
	wrong := []int{0, -1, -2, -8, 3, 4, 9, 64, math.MaxInt32, math.MaxInt, math.MinInt32, math.MinInt}
	for _, handle := range append([]int{1, 2}, wrong...) {
		checkRelease(t, "P13: none was given yet", x, handle, api.ErrHandle)
	}
	checkPut(t, "P11", x, "a", "1", api.OK)
	checkSnapshot(t, "P13: a refused Release takes no number", x, 1)
	checkPut(t, "P11", x, "a", "2", api.OK)
	checkSnapshot(t, "P13", x, 2)
	checkDelete(t, "P11", x, "a", true)
	for _, handle := range wrong {
		checkRelease(t, "P13: never given", x, handle, api.ErrHandle)
		checkRefused(t, "P14: never given", x, max(handle, 3), "", "", 9, api.ErrHandle)
		checkShown(t, "P1: nothing is changed", x, 0)
		checkShown(t, "P1: nothing is changed", x, 1, "a", "1")
		checkShown(t, "P1: nothing is changed", x, 2, "a", "2")
		checkStored(t, "P1: nothing is changed", x, 2)
	}
}

func TestSnapshotOfEmptyIndex(t *testing.T) {
	x := open(t, exampleTable)
	checkSnapshot(t, "P13", x, 1)
	checkStored(t, "P15", x, 0)
	checkPut(t, "P11", x, "", "", api.OK)
	checkPut(t, "P11", x, "a", "1", api.OK)
	checkShown(t, "P13: an empty index", x, 1)
	for _, limit := range []int{0, 1, math.MaxInt} {
		checkScanOf(t, "P14: an empty index", x, 1, "a", "b", limit, nil)
	}
	checkStored(t, "P15", x, 2)
	checkSnapshot(t, "P13", x, 2)
	checkDelete(t, "P11", x, "", true)
	checkDelete(t, "P11", x, "a", true)
	checkSnapshot(t, "P13: empty again", x, 3)
	checkShown(t, "P13", x, 1)
	checkShown(t, "P13: the empty text", x, 2, "", "", "a", "1")
	checkShown(t, "P13", x, 3)
	checkStored(t, "P15", x, 2)
	checkRelease(t, "P13", x, 1, api.OK)
	checkRelease(t, "P13", x, 3, api.OK)
	checkStored(t, "P15", x, 2)
}

func TestScanOfSnapshotByBounds(t *testing.T) {
	d := dice(9)
	for _, o := range orders() {
		x := New(collatorOf(t, orderTable, o.Options))
		l := o.in()
		puts := slices.Clone(l)
		d.shuffle(puts)
		for _, e := range puts {
			checkPut(t, "P11", x, e.Key, e.Value, api.OK)
		}
		checkSnapshot(t, "P13", x, 1)
		for i, e := range puts {
			if i%2 == 0 {
				checkPut(t, "P11", x, e.Key, "other", api.OK)
			} else {
				checkDelete(t, "P11", x, e.Key, true)
			}
			checkPut(t, "P11", x, e.Key+"b-", "more", api.OK)
		}
		for i, lo := range l {
			for limit := range 4 {
				checkScanOf(t, "P14: limit", x, 1, lo.Key, "", limit, l[i:min(len(l), i+limit)])
			}
			checkScanOf(t, "P14: no upper bound", x, 1, lo.Key, "", math.MaxInt, l[i:])
			for k, hi := range l[1:] {
				checkScanOf(t, "P14: bounds", x, 1, lo.Key, hi.Key, 99, l[min(i, k+1):k+1])
			}
		}
	}
}

func TestScanErrorsOfSnapshots(t *testing.T) {
	x := open(t, exampleTable)
	checkPut(t, "P11", x, "a", "1", api.OK)
	checkSnapshot(t, "P13", x, 1)
	checkSnapshot(t, "P13", x, 2)
	checkPut(t, "P11", x, "a", "2", api.OK)
	checkRelease(t, "P13", x, 1, api.OK)
	for _, long := range longTexts() {
		for _, handle := range []int{1, 3, -1, -2, math.MaxInt, math.MinInt} {
			checkRefused(t, "P14: not held", x, handle, "", "", 9, api.ErrHandle)
			checkRefused(t, "P14: ErrHandle is named first", x, handle, long, "", 9, api.ErrHandle)
			checkRefused(t, "P14: ErrHandle is named first", x, handle, "", long, -1, api.ErrHandle)
			checkRefused(t, "P14: ErrHandle is named first", x, handle, "", "", -1, api.ErrHandle)
		}
		checkRefused(t, "P14: lo is too long", x, 2, long, "", 9, api.ErrLong)
		checkRefused(t, "P14: hi is too long", x, 2, "", long, 9, api.ErrLong)
		checkRefused(t, "P14: ErrLong is named ahead of ErrLimit", x, 2, "", long, -1, api.ErrLong)
		checkRefused(t, "P14: limit", x, 2, "b", "a", -1, api.ErrLimit)
		checkRefused(t, "P14: limit", x, 2, "", "", math.MinInt, api.ErrLimit)
	}
	checkShown(t, "P1: nothing is changed", x, 2, "a", "1")
	checkShown(t, "P1: nothing is changed", x, 0, "a", "2")
	checkStored(t, "P1: nothing is changed", x, 2)
}

// A call that is refused makes no version and drops none.
func TestStoredBehindRefusedCalls(t *testing.T) {
	x := open(t, exampleTable)
	checkPut(t, "P11", x, "a", "1", api.OK)
	fill(t, x, 64)
	checkSnapshot(t, "P13", x, 1)
	checkPut(t, "P11", x, "a", text(65), api.ErrLong)
	checkPut(t, "P11", x, text(65), "2", api.ErrLong)
	checkPut(t, "P11", x, "one more", "2", api.ErrFull)
	checkLoad(t, "P12", x, entriesOf("one more", "2", "a", text(65), text(65), ""), api.ErrFull, api.ErrLong, api.ErrLong)
	checkDelete(t, "P11", x, "one more", false)
	if _, e := x.Delete(text(65)); e != api.ErrLong {
		t.Errorf("P11: Delete: %d", e)
	}
	checkRelease(t, "P13", x, 2, api.ErrHandle)
	checkStored(t, "P15", x, 64)
	checkRelease(t, "P13", x, 1, api.OK)
	checkStored(t, "P15", x, 64)
}

func TestSnapshotsOfTwoIndexes(t *testing.T) {
	first := collatorOf(t, exampleTable, api.Options{Strength: 3})
	second := collatorOf(t, "w 61 = 12.20.2\nw 62 = 11.20.2\n", api.Options{Strength: 3})
	x, y, z := New(first), New(first), New(second)
	checkPut(t, "P11", x, "a", "x", api.OK)
	checkSnapshot(t, "P13", x, 1)
	for _, other := range []*Index{y, z} {
		checkRefused(t, "P2: another index", other, 1, "", "", 9, api.ErrHandle)
		checkRelease(t, "P2: another index", other, 1, api.ErrHandle)
		checkStored(t, "P2: another index", other, 0)
	}
	checkLoad(t, "P12", y, entriesOf("b", "y", "a", "y"), api.OK, api.OK)
	checkLoad(t, "P12", z, entriesOf("b", "z", "a", "z"), api.OK, api.OK)
	for handle := 1; handle <= 8; handle++ {
		checkSnapshot(t, "P2: handles of its own", y, handle)
	}
	checkNoSnapshot(t, "P13", y)
	checkSnapshot(t, "P2: another index is full", x, 2)
	checkSnapshot(t, "P2: handles of its own", z, 1)
	checkDelete(t, "P11", x, "a", true)
	checkDelete(t, "P11", z, "b", true)
	checkRelease(t, "P13", y, 1, api.OK)
	checkShown(t, "P2: another index", x, 1, "a", "x")
	checkShown(t, "P2: another index", x, 2, "a", "x")
	checkShown(t, "P2: another index", y, 2, "a", "y", "b", "y")
	checkShown(t, "P2: another index", z, 1, "b", "z", "a", "z")
	checkStored(t, "P2: another index", x, 1)
	checkStored(t, "P2: another index", y, 2)
	checkStored(t, "P2: another index", z, 2)
}

// What is written into an answer is seen in no other, nor by a handle.
func TestAnswersOfSnapshotsAreNewMemory(t *testing.T) {
	x, want := grown(t)
	var answers, copies [][]api.Entry
	for range 2 {
		for handle := range want {
			for _, limit := range []int{0, 1, 2, 99} {
				l, _ := x.Scan(handle, "", "", limit)
				answers = append(answers, l)
				copies = append(copies, slices.Clone(l))
			}
		}
	}
	for i, l := range answers {
		spoil(l, trash())
		for k := i + 1; k < len(answers); k++ {
			if !slices.Equal(answers[k], copies[k]) {
				t.Errorf("P2: answer %d shows what was written into answer %d: %q", k, i, answers[k])
			}
		}
		for handle, words := range want {
			checkShown(t, "P2: the index", x, handle, words...)
		}
	}
	checkStored(t, "P2: the index", x, 8)
}
