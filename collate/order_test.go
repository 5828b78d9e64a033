package collate

import (
	"cmp"
	"strings"
	"sync"
	"testing"

	"tome/api"
)

// checkOrder asks Compare and Key for each of two texts: want is 0 just where
// they are equal.
func checkOrder(t *testing.T, promise string, c *Collator, a string, b string, want int) {
	t.Helper()
	if n, e := c.Compare(a, b); n != want || e != api.OK {
		t.Errorf("%s: P8: %v: Compare(%q, %q) = %d, %d, want %d", promise, c.options, a, b, n, e, want)
	}
	p, e := c.Key(a)
	q, f := c.Key(b)
	if n := strings.Compare(p, q); n != want || e != api.OK || f != api.OK {
		t.Errorf("%s: P9: %v: the keys of %q and %q: %d, %d, %d, want %d", promise, c.options, a, b, n, e, f, want)
	}
}

// checkRising has texts in rising order, no two of which are equal.
func checkRising(t *testing.T, promise string, table string, o api.Options, texts []string) {
	t.Helper()
	c := mustNewWith(t, table, o)
	for i, a := range texts {
		for k, b := range texts {
			checkOrder(t, promise, c, a, b, cmp.Compare(i, k))
		}
	}
}

func TestExample3(t *testing.T) {
	checkRising(t, "example 3", exampleTable, api.Options{Strength: 3}, []string{"a", "á", "b"})
	checkRising(t, "example 3", exampleTable, api.Options{Strength: 3}, []string{"cb", "ch"})
	checkRising(t, "example 3", exampleTable, api.Options{Strength: 3}, []string{"a-b", "ab"})
	checkRising(t, "example 3", exampleTable, api.Options{Strength: 3, Shifted: true}, []string{"a-b", "ab"})
	c := mustNewWith(t, exampleTable, api.Options{Strength: 3, Shifted: true})
	checkOrder(t, "example 3", c, "a-b", "ab\u0301", -1)
	checkOrder(t, "example 3", c, "ab", "a-b\u0301", -1)
}

// orderTable: _ has no weight, ! only a third, ~ a second and a third one; d
// has two elements, + a variable one and one without a first weight behind it.
const orderTable = exampleTable + `w 41 = 10.20.8
w 42 = 11.20.8
w 64 = 14.20.2 15.20.2
w 5f = 0.0.0
w 21 = 0.0.5
w 7e = 0.40.2
w 2e = *4.20.2
w 2b = *5.20.2 0.30.2
c 323 dc
w 323 = 0.2a.2
`

func TestLevels(t *testing.T) {
	checkRising(t, "level 1", orderTable, api.Options{Strength: 1}, []string{
		"", "!", "_", "__", "~", "\u0301", "\u0323",
		"-", "-a", ".", "+",
		"A", "a", "a!", "a_", "a~", "á", "a\u0323", "a-", "a-b", "aA", "aa", "áa", "ab",
		"b", "c", "cb", "ch", "d", "y", "z", "\uffff", "\U0010ffff",
	})
	checkRising(t, "level 2", orderTable, api.Options{Strength: 2}, []string{
		"", "!", "_", "\u0301", "\u0323", "~",
		"-", "-a", ".", ".\u0301", "+",
		"A", "A!", "a", "a!", "a_", "á", "á\u0301", "a\u0323", "a~",
		"a-b", "AB", "aB", "ab", "ab\u0301", "áb",
	})
	third := []string{
		"", "_", "!", "!_!", "\u0301", "~", "-", ".",
		"a", "a_", "a!", "A", "A!", "á", "á_", "A\u0301", "A\u0301!", "a\u0323",
		"a-b", "ab", "ab!", "a!b", "aB", "Ab", "AB", "ab\u0301", "áb",
	}
	checkRising(t, "level 3", orderTable, api.Options{Strength: 3}, third)
	checkRising(t, "level 4 is nothing", orderTable, api.Options{Strength: 4}, third)
}

func TestShiftedLevels(t *testing.T) {
	checkRising(t, "shifted, level 1", orderTable, api.Options{Strength: 1, Shifted: true}, []string{
		"", "!", "+", "-", "-\u0301", ".", ".-", "_", "~", "\u0301",
		"-a", ".-a", "A", "a", "a-", "a\u0301", "a-b", "ab", "b", "z",
	})
	checkRising(t, "shifted, level 2", orderTable, api.Options{Strength: 2, Shifted: true}, []string{
		"", "!", "+", "-", "-~", "-\u0301", "._\u0301", "_", "_-\u0301", "\u0301", "\u0301-\u0301", "~",
		"-a", "A", "a", "a+", "a-", "a-\u0301", "-á", "á", "á-", "-~a\u0323", "a~", "a-b", "ab",
	})
	checkRising(t, "shifted, level 3", orderTable, api.Options{Strength: 3, Shifted: true}, []string{
		"", "+", "-", "-!", "-\u0301", ".", "_", "_-!", "!", "\u0301", "~",
		"+a", "-!a", "-a", "a", "a+", "a-", "a-!", "a_", "-a!", "a!", "A", "A-\u0301", "á", "á-!", "a-b", "ab",
	})
	checkRising(t, "shifted, level 4", orderTable, api.Options{Strength: 4, Shifted: true}, []string{
		"", "_", "-", "-!", "-_", "-_\u0301", "-~", "-\u0301", "--", "-.", ".", ".-", "+", "!", "\u0301-", "~",
		"--a", "-a", ".a", "+a", "a", "a_", "a-", "a-\u0301", "a-.", "a.", "a+", "a!", "A", "á", "á-", "a\u0323",
		"-ab", "a-_b", "a-b", "a.b", "ab", "ab-", "z",
	})
}

// An element without a first weight goes with the last one ahead of it that
// has one, however far.
func TestBehindVariable(t *testing.T) {
	for strength := 2; strength <= 4; strength++ {
		c := mustNewWith(t, orderTable, api.Options{Strength: strength, Shifted: true})
		for _, s := range []string{"-", "a-", "-_", "-!~", "a+", "z.", "-á."} {
			checkOrder(t, "behind a variable element", c, s+"~", s+"\u0301", -1)
			checkOrder(t, "behind a variable element", c, s+"~b", s+"\u0301b", -1)
		}
		for _, s := range []string{"", "a", "-a", "a_", "-a!~", "z", "+ch", "_"} {
			checkOrder(t, "behind another element", c, s+"~", s+"\u0301", 1)
			checkOrder(t, "behind another element", c, s+"~b", s+"\u0301b", 1)
		}
	}
}

func TestEqualTexts(t *testing.T) {
	table := orderTable + "d c5 c6\nd c6 e1 323\nd 1ea1 61 323\nd 212b 64 68\n"
	for strength := 1; strength <= 4; strength++ {
		for _, shifted := range []bool{false, true} {
			c := mustNewWith(t, table, api.Options{Strength: strength, Shifted: shifted})
			for _, same := range [][]string{
				{"", ""},
				{"\u00e1", "a\u0301"},
				{"\u00c5", "\u00c6", "a\u0301\u0323", "a\u0323\u0301", "á\u0323", "\u1ea1\u0301"},
				{"-\u212b_", "-dh_"},
				{"a\xff", "a\ufffd", "a\x80", "a\xc3"},
				{"\xed\xa0\x80", "\ufffd\ufffd\ufffd"},
			} {
				for _, a := range same {
					for _, b := range same {
						checkOrder(t, "equal texts", c, a, b, 0)
					}
					checkOrder(t, "texts that are not equal", c, a, a+"_", -1)
					checkOrder(t, "texts that are not equal", c, a+"\x00", a, 1)
				}
			}
		}
	}
}

// Where no level decides, the numbers of the runes do, whatever their bytes.
func TestOrderByRunes(t *testing.T) {
	table := ""
	for _, name := range []string{"0", "1", "ff", "100", "7fff", "8000", "ffff", "10000", "1ffff", "20000", "10ffff"} {
		table += "w " + name + " = 0.0.0\n"
	}
	table += "c 301 e6\nw 301 = 0.0.0\nc 323 dc\nw 323 = 0.0.0\nd 61 10ffff 323\n"
	for strength := 1; strength <= 4; strength++ {
		for _, shifted := range []bool{false, true} {
			checkRising(t, "by the runes", table, api.Options{Strength: strength, Shifted: shifted}, []string{
				"", "\x00", "\x00\x00", "\x00\x01", "\x00\u0100", "\x01", "\x01\x00", "\u00ff", "\u0100", "\u0100\x00",
				"\u0301", "\u0323", "\u0301\u0323", "\u7fff", "\u8000", "\uffff", "\uffff\U0010ffff", "\U00010000", "\U00010000\x00",
				"\U0001ffff", "\U00020000", "\U0010ffff", "\U0010ffff\x00", "a", "a\u0301",
			})
		}
	}
}

// Weights of all sizes, so that their bytes are not taken for them.
func TestOrderByWeights(t *testing.T) {
	const table = `w 61 = *1.1.1
w 62 = *ff.1.1
w 63 = *100.1.1
w 64 = *101.1.1
w 65 = 1fe.1.1
w 66 = 1ff.1.1
w 67 = 200.1.1
w 68 = fafe.1.1
w 69 = faff.1.1
w 6a = faff.1.2
w 6b = faff.1.ff
w 6c = faff.1.100
w 6d = faff.1.ffff
w 6e = faff.2.1
w 6f = faff.ff.1
w 70 = faff.100.1
w 71 = faff.ffff.1
`
	checkRising(t, "weights", table, api.Options{Strength: 3}, []string{
		"", "a", "aa", "b", "ba", "c", "ca", "d", "e", "ee", "f", "g", "ga", "h",
		"i", "j", "k", "l", "m", "n", "o", "p", "q", "ia", "ii", "ij", "ik", "il", "im", "mi", "in", "ni", "r",
	})
	checkRising(t, "weights of level 4", table, api.Options{Strength: 4, Shifted: true}, []string{
		"", "a", "aa", "ab", "b", "ba", "c", "cd", "d",
		"aai", "ai", "bi", "ci", "di", "i", "ia", "iaa", "ib", "ic", "id", "aj", "j", "ja",
		"iai", "ibi", "ici", "ii", "iia", "ij",
	})
}

func TestOrderLength(t *testing.T) {
	full := strings.Repeat("a", 64)
	for strength := 1; strength <= 4; strength++ {
		for _, shifted := range []bool{false, true} {
			c := mustNewWith(t, partsTable, api.Options{Strength: strength, Shifted: shifted})
			checkOrder(t, "64 bytes", c, full, full, 0)
			checkOrder(t, "64 bytes", c, full, full[:63], 1)
			checkOrder(t, "64 bytes", c, "", full, -1)
			checkOrder(t, "64 bytes", c, full[:63]+"b", full, 1)
			checkOrder(t, "64 bytes", c, strings.Repeat("1", 64), strings.Repeat("1", 63), 1)
			checkOrder(t, "64 bytes", c, strings.Repeat("\xff", 64), strings.Repeat("\U0010ffff", 16), -1)
			for _, long := range longTexts() {
				checkLong(t, c, long)
			}
		}
	}
}

func checkLong(t *testing.T, c *Collator, long string) {
	t.Helper()
	full := strings.Repeat("a", 64)
	for _, pair := range [][2]string{{long, ""}, {"", long}, {long, full}, {full, long}, {long, long}, {long, long + "a"}} {
		if n, e := c.Compare(pair[0], pair[1]); n != 0 || e != api.ErrLong {
			t.Errorf("P8, P1: %d and %d bytes: %d, %d, want ErrLong", len(pair[0]), len(pair[1]), n, e)
		}
	}
	if k, e := c.Key(long); k != "" || e != api.ErrLong {
		t.Errorf("P9, P1: %d bytes: %q, %d, want ErrLong", len(long), k, e)
	}
}

func TestKeysStay(t *testing.T) {
	c := mustNewWith(t, orderTable, api.Options{Strength: 4, Shifted: true})
	texts := []string{"", "a", "-a-b\u0301", "chá\xff"}
	var keys []string
	for _, s := range texts {
		k, _ := c.Key(s)
		keys = append(keys, k)
		l, _ := c.Elements(s)
		spoil(l, api.Element{Primary: 7})
		runes, _ := c.Normal(s)
		spoil(runes, 7)
	}
	for i, s := range texts {
		if k, e := c.Key(s); k != keys[i] || e != api.OK {
			t.Errorf("P9: the key of %q is another one the second time: %q, %q", s, keys[i], k)
		}
	}
}

func TestOrderAtATime(t *testing.T) {
	c := mustNewWith(t, orderTable, api.Options{Strength: 4, Shifted: true})
	var all sync.WaitGroup
	for range 8 {
		all.Go(func() {
			for range 50 {
				checkOrder(t, "many at a time", c, "a-b", "ab", -1)
				checkOrder(t, "many at a time", c, "a\u0323\u0301", "a\u0301\u0323", 0)
				checkOrder(t, "many at a time", c, "ch", "cb", 1)
			}
		})
	}
	all.Wait()
}
