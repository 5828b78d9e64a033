package index

import (
	"slices"
	"strings"
	"testing"

	"tome/api"
	"tome/collate"
)

// exampleTable is that of the document's examples.
const exampleTable = `w 61 = 10.20.2
w 62 = 11.20.2
w 63 68 = 13.20.2
w 63 = 12.20.2
w 301 = 0.24.2
c 301 e6
d e1 61 301
w 2d = *3.20.2
`

// manyWaysTable has runes that can be written in many ways.
const manyWaysTable = exampleTable + `c 323 dc
w 323 = 0.2a.2
d c5 c6
d c6 e1 323
d 1ea1 61 323
d 212b 63 68
`

func collatorOf(t *testing.T, table string, o api.Options) *collate.Collator {
	t.Helper()
	c, line, e := collate.New(table, o)
	if e != api.OK {
		t.Fatalf("P5: New(%q) = %d, %d", table, line, e)
	}
	return c
}

func open(t *testing.T, table string) *Index {
	t.Helper()
	x := New(collatorOf(t, table, api.Options{Strength: 3}))
	if x == nil {
		t.Fatal("P10: no index")
	}
	return x
}

func allOptions() []api.Options {
	var l []api.Options
	for strength := 1; strength <= 4; strength++ {
		l = append(l, api.Options{Strength: strength}, api.Options{Strength: strength, Shifted: true})
	}
	return l
}

func checkPut(t *testing.T, promise string, x *Index, key string, value string, want api.Errno) {
	t.Helper()
	if e := x.Put(key, value); e != want {
		t.Errorf("%s: Put(%q, %q) = %d, want %d", promise, key, value, e, want)
	}
}

func checkDelete(t *testing.T, promise string, x *Index, key string, want bool) {
	t.Helper()
	if there, e := x.Delete(key); there != want || e != api.OK {
		t.Errorf("%s: Delete(%q) = %t, %d, want %t", promise, key, there, e, want)
	}
}

func checkThere(t *testing.T, promise string, x *Index, key string, want string) {
	t.Helper()
	if v, there, e := x.Get(key); v != want || !there || e != api.OK {
		t.Errorf("%s: Get(%q) = %q, %t, %d, want %q, true", promise, key, v, there, e, want)
	}
}

func checkGone(t *testing.T, promise string, x *Index, key string) {
	t.Helper()
	if v, there, e := x.Get(key); v != "" || there || e != api.OK {
		t.Errorf("%s: Get(%q) = %q, %t, %d, want nothing", promise, key, v, there, e)
	}
}

// entriesOf takes keys and values in turn.
func entriesOf(words ...string) []api.Entry {
	var l []api.Entry
	for i := 0; i < len(words); i += 2 {
		l = append(l, api.Entry{Key: words[i], Value: words[i+1]})
	}
	return l
}

func checkScanOf(t *testing.T, promise string, x *Index, handle int, lo string, hi string, limit int, want []api.Entry) {
	t.Helper()
	if l, e := x.Scan(handle, lo, hi, limit); !slices.Equal(l, want) || e != api.OK {
		t.Errorf("%s: Scan(%d, %q, %q, %d) = %q, %d, want %q", promise, handle, lo, hi, limit, l, e, want)
	}
}

func checkScan(t *testing.T, promise string, x *Index, lo string, hi string, limit int, want []api.Entry) {
	t.Helper()
	checkScanOf(t, promise, x, 0, lo, hi, limit, want)
}

// checkAll says keys and values in turn.
func checkAll(t *testing.T, promise string, x *Index, words ...string) {
	t.Helper()
	checkScan(t, promise, x, "", "", api.MaxKeys, entriesOf(words...))
}

// checkShown is checkAll of a snapshot.
func checkShown(t *testing.T, promise string, x *Index, handle int, words ...string) {
	t.Helper()
	checkScanOf(t, promise, x, handle, "", "", api.MaxKeys, entriesOf(words...))
}

func checkRefused(t *testing.T, promise string, x *Index, handle int, lo string, hi string, limit int, want api.Errno) {
	t.Helper()
	if l, e := x.Scan(handle, lo, hi, limit); len(l) != 0 || e != want {
		t.Errorf("%s: Scan(%d, %q, %q, %d) = %q, %d, want nothing, %d", promise, handle, lo, hi, limit, l, e, want)
	}
}

func checkSnapshot(t *testing.T, promise string, x *Index, want int) {
	t.Helper()
	if handle, e := x.Snapshot(); handle != want || e != api.OK {
		t.Errorf("%s: Snapshot() = %d, %d, want %d", promise, handle, e, want)
	}
}

func checkNoSnapshot(t *testing.T, promise string, x *Index) {
	t.Helper()
	if handle, e := x.Snapshot(); handle != 0 || e != api.ErrFull {
		t.Errorf("%s: Snapshot() = %d, %d, want ErrFull", promise, handle, e)
	}
}

func checkRelease(t *testing.T, promise string, x *Index, handle int, want api.Errno) {
	t.Helper()
	if e := x.Release(handle); e != want {
		t.Errorf("%s: Release(%d) = %d, want %d", promise, handle, e, want)
	}
}

func checkStored(t *testing.T, promise string, x *Index, want int) {
	t.Helper()
	if n := x.Stored(); n != want {
		t.Errorf("%s: Stored() = %d, want %d", promise, n, want)
	}
}

func checkLoad(t *testing.T, promise string, x *Index, l []api.Entry, want ...api.Errno) {
	t.Helper()
	if got := x.Load(l); !slices.Equal(got, want) {
		t.Errorf("%s: Load(%q) = %d, want %d", promise, l, got, want)
	}
}

func all(t *testing.T, x *Index) []api.Entry {
	t.Helper()
	l, e := x.Scan(0, "", "", api.MaxKeys)
	if e != api.OK {
		t.Fatalf("P14: Scan: %d", e)
	}
	return l
}

// text has so many bytes.
func text(size int) string { return strings.Repeat("a", size) }

// fill puts keys of its own till there are so many.
func fill(t *testing.T, x *Index, count int) {
	t.Helper()
	for i := len(all(t, x)); i < count; i++ {
		checkPut(t, "P11", x, "filler"+string(rune('0'+i)), "f", api.OK)
	}
	if n := len(all(t, x)); n != count {
		t.Fatalf("P14: %d keys, want %d", n, count)
	}
}

// spoil writes into the list, into its spare room, and behind it.
func spoil[T any](l []T, trash T) {
	_ = append(l, trash)
	whole := l[:cap(l)]
	for i := range whole {
		whole[i] = trash
	}
}

func trash() api.Entry { return api.Entry{Key: "trash", Value: "trash"} }
