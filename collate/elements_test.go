package collate

import (
	"fmt"
	"strings"
	"sync"
	"testing"

	"tome/api"
)

// wordsOf writes elements as a table does.
func wordsOf(l []api.Element) string {
	var words []string
	for _, e := range l {
		word := fmt.Sprintf("%x.%x.%x", e.Primary, e.Secondary, e.Tertiary)
		if e.Variable {
			word = "*" + word
		}
		words = append(words, word)
	}
	return strings.Join(words, " ")
}

// weighed is what Elements is to answer for a text.
type weighed struct {
	s    string
	want string
}

func checkElements(t *testing.T, promise string, c *Collator, texts []weighed) {
	t.Helper()
	for _, w := range texts {
		if l, e := c.Elements(w.s); wordsOf(l) != w.want || e != api.OK {
			t.Errorf("%s: Elements(%q) = %s, %d, want %s", promise, w.s, wordsOf(l), e, w.want)
		}
	}
}

func TestExample2(t *testing.T) {
	checkElements(t, "P7, example 2", mustNew(t, exampleTable), []weighed{
		{"chb", "13.20.2 11.20.2"},
		{"z", "fb40.20.2 807a.0.0"},
		{"a-", "10.20.2 *3.20.2"},
	})
}

func TestExample4(t *testing.T) {
	c := mustNew(t, exampleTable+"c 323 dc\nw 323 = 0.2a.2\nw 61 301 = 15.20.2\n")
	checkElements(t, "P7, example 4", c, []weighed{
		{"a\u0323\u0301", "15.20.2 0.2a.2"},
		{"a\u0301\u0323", "15.20.2 0.2a.2"},
	})
}

// sequenceTable has no marks, so that no sequence grows.
const sequenceTable = `w 61 = 1.1.1
w 61 62 = 2.1.1
w 61 62 63 = 3.1.1
w 62 = 4.1.1
w 63 = 5.1.1 6.1.1
w 62 63 = 7.1.1 0.8.1 0.0.9 0.0.0
w 78 79 = 10.1.1
w 78 79 78 = 11.1.1
w 30 30 = 12.1.1
w 30 30 30 = 13.1.1
w 10ffff 0 = 14.1.1
w fffd = 15.1.1
w fffd fffd = 16.1.1
d c4 61
d c5 62 63
`

func TestSequences(t *testing.T) {
	checkElements(t, "P7: sequences", mustNew(t, sequenceTable), []weighed{
		{"", ""},
		{"a", "1.1.1"},
		{"ab", "2.1.1"},
		{"abc", "3.1.1"},
		{"b", "4.1.1"},
		{"c", "5.1.1 6.1.1"},
		{"bc", "7.1.1 0.8.1 0.0.9 0.0.0"},
		{"xy", "10.1.1"},
		{"\U0010ffff\x00", "14.1.1"},
	})
	checkElements(t, "P7: the longest sequence at the left end", mustNew(t, sequenceTable), []weighed{
		{"abcabc", "3.1.1 3.1.1"},
		{"aabc", "1.1.1 3.1.1"},
		{"abbc", "2.1.1 7.1.1 0.8.1 0.0.9 0.0.0"},
		{"aba", "2.1.1 1.1.1"},
		{"acb", "1.1.1 5.1.1 6.1.1 4.1.1"},
		{"cab", "5.1.1 6.1.1 2.1.1"},
		{"xyx", "11.1.1"},
		{"xyxy", "11.1.1 fb40.20.2 8079.0.0"},
		{"xyxyx", "11.1.1 fb40.20.2 8079.0.0 fb40.20.2 8078.0.0"},
		{"xxy", "fb40.20.2 8078.0.0 10.1.1"},
		{"yx", "fb40.20.2 8079.0.0 fb40.20.2 8078.0.0"},
		{"0", "fb40.20.2 8030.0.0"},
		{"00", "12.1.1"},
		{"0000", "13.1.1 fb40.20.2 8030.0.0"},
		{"00000", "13.1.1 12.1.1"},
	})
	checkElements(t, "P7: sequences of parts and of broken bytes", mustNew(t, sequenceTable), []weighed{
		{"\u00c4", "1.1.1"},
		{"\u00c5", "7.1.1 0.8.1 0.0.9 0.0.0"},
		{"\u00c4\u00c5", "3.1.1"},
		{"a\u00c5", "3.1.1"},
		{"\xff", "15.1.1"},
		{"\xff\ufffd", "16.1.1"},
		{"\xe1\x80\xff", "16.1.1 15.1.1"},
		{"a\xc3", "1.1.1 15.1.1"},
	})
}

// growTable: 323 and 324 have one class, 301 and 300 a greater one, 31b one
// that is less, 345 the greatest.
const growTable = `c 31b d8
c 323 dc
c 324 dc
c 301 e6
c 300 e6
c 345 f0
w 61 = 1.1.1
w 62 = 2.1.1
w 301 = 0.1.1
w 300 = 0.2.1
w 323 = 0.3.1
w 324 = 0.4.1
w 31b = 0.5.1
w 345 = 0.6.1
w 61 301 = 11.1.1
w 61 301 345 = 12.1.1
w 61 323 = 13.1.1
w 61 323 301 = 14.1.1
w 61 301 300 = 15.1.1
w 61 62 = 16.1.1
w 61 62 300 = 17.1.1
w 78 301 = 18.1.1
w 78 345 = 19.1.1
w 31b 301 = 0.21.1
w 323 300 = 0.22.1
w 63 301 = 23.1.1
w 63 301 62 = 24.1.1
`

func TestFreeRunes(t *testing.T) {
	checkElements(t, "P7: free runes", mustNew(t, growTable), []weighed{
		// Behind marks of smaller classes.
		{"a\u031b\u0301", "11.1.1 0.5.1"},
		{"a\u031b\u0324\u0301", "11.1.1 0.5.1 0.4.1"},
		{"a\u0301\u031b\u0324", "11.1.1 0.5.1 0.4.1"},
		{"b\u031b\u0301", "2.1.1 0.21.1"},
		{"ab\u031b\u0300", "17.1.1 0.5.1"},
		{"ab\u031b\u0301", "16.1.1 0.21.1"},
		// Behind a mark of the same class, or with a rune of class 0 between.
		{"a\u0324\u0323", "1.1.1 0.4.1 0.3.1"},
		{"b\u0300\u0301", "2.1.1 0.2.1 0.1.1"},
		{"a\u0300\u0301", "1.1.1 0.2.1 0.1.1"},
		{"a\u031b\u0300\u0301", "1.1.1 0.5.1 0.2.1 0.1.1"},
		{"abb\u0301", "16.1.1 2.1.1 0.1.1"},
		{"az\u0301", "1.1.1 fb40.20.2 807a.0.0 0.1.1"},
		{"a\u031bb\u0301", "1.1.1 0.5.1 2.1.1 0.1.1"},
		{"a\u031bz\u0301", "1.1.1 0.5.1 fb40.20.2 807a.0.0 0.1.1"},
		// What is not free for one rune may be at the left end later.
		{"a\u0323\u0300", "13.1.1 0.2.1"},
		{"b\u0323\u0300", "2.1.1 0.22.1"},
		{"b\u0323\u0301\u0300", "2.1.1 0.3.1 0.1.1 0.2.1"},
		// A rune of class 0 behind S is no part of it, though it would be one.
		{"c\u031b\u0301b", "23.1.1 0.5.1 2.1.1"},
		{"c\u0301b", "24.1.1"},
		{"a\u031bb", "1.1.1 0.5.1 2.1.1"},
		// A rune that is no sequence alone grows, too.
		{"x\u031b\u0301", "18.1.1 0.5.1"},
		{"x\u0301", "18.1.1"},
		{"x\u031b\u0323\u0301\u0345", "18.1.1 0.5.1 0.3.1 0.6.1"},
		{"x\u0300\u0345", "19.1.1 0.2.1"},
		{"x\u0300\u0301", "fb40.20.2 8078.0.0 0.2.1 0.1.1"},
		{"x\u031b", "fb40.20.2 8078.0.0 0.5.1"},
		// Marks at the left end.
		{"\u031b\u0323\u0301", "0.21.1 0.3.1"},
		{"\u0323\u0345\u0300", "0.22.1 0.6.1"},
		{"\u0345\u031b\u0301", "0.21.1 0.6.1"},
	})
}

func TestGrowTwice(t *testing.T) {
	checkElements(t, "P7: growing twice", mustNew(t, growTable), []weighed{
		{"a\u031b\u0301\u0345", "12.1.1 0.5.1"},
		{"a\u0345\u0301\u031b", "12.1.1 0.5.1"},
		{"a\u031b\u0324\u0301\u0345", "12.1.1 0.5.1 0.4.1"},
		{"a\u031b\u0323\u0301", "14.1.1 0.5.1"},
		// What was taken out stands between no more.
		{"a\u031b\u0301\u0300", "15.1.1 0.5.1"},
		{"a\u031b\u0324\u0301\u0300", "15.1.1 0.5.1 0.4.1"},
		// It grew by the first, and the second was not of the longer one.
		{"a\u031b\u0323\u0300\u0301", "13.1.1 0.5.1 0.2.1 0.1.1"},
		{"a\u031b\u0301\u0301", "11.1.1 0.21.1"},
		// It grew by one that is not next, then by one further behind.
		{"a\u031b\u0301\u0300\u0345", "15.1.1 0.5.1 0.6.1"},
		{"a\u0323\u0301\u0345", "14.1.1 0.6.1"},
		// One at the left end, and then one that is free.
		{"ab\u0323\u0300", "17.1.1 0.3.1"},
		{"a\u0301\u0345", "12.1.1"},
		// A sequence of three does not grow, and one that grew to three neither.
		{"a\u0323\u0301\u0300", "14.1.1 0.2.1"},
		{"a\u031b\u0301\u0345\u0345", "12.1.1 0.5.1 0.6.1"},
	})
}

func TestNotNamed(t *testing.T) {
	c := mustNew(t, "c 301 e6\nw 62 63 = 1.1.1\nd c5 7a 301\n")
	checkElements(t, "P7: runes that the table does not weigh", c, []weighed{
		{"a", "fb40.20.2 8061.0.0"},
		{"b", "fb40.20.2 8062.0.0"},
		{"c", "fb40.20.2 8063.0.0"},
		{"\x00", "fb40.20.2 8000.0.0"},
		{"\u0301", "fb40.20.2 8301.0.0"},
		{"\u00c5", "fb40.20.2 807a.0.0 fb40.20.2 8301.0.0"},
		{"\u7fff", "fb40.20.2 ffff.0.0"},
		{"\u8000", "fb41.20.2 8000.0.0"},
		{"\ud7ff", "fb41.20.2 d7ff.0.0"},
		{"\ue000", "fb41.20.2 e000.0.0"},
		{"\uffff", "fb41.20.2 ffff.0.0"},
		{"\U00010000", "fb42.20.2 8000.0.0"},
		{"\U0001f600", "fb43.20.2 f600.0.0"},
		{"\U0010ffff", "fb61.20.2 ffff.0.0"},
		{"\U00108000", "fb61.20.2 8000.0.0"},
		{"\ufffd", "fb41.20.2 fffd.0.0"},
		{"\xff", "fb41.20.2 fffd.0.0"},
		{"\xe1\xba", "fb41.20.2 fffd.0.0 fb41.20.2 fffd.0.0"},
		{"\xed\xa0\x80a", "fb41.20.2 fffd.0.0 fb41.20.2 fffd.0.0 fb41.20.2 fffd.0.0 fb40.20.2 8061.0.0"},
	})
}

func TestElementsOfSurrogates(t *testing.T) {
	c := mustNew(t, "d 61 d800\nd 62 dfff\nw d800 = 1.1.1\nw d800 dfff = 2.1.1\n")
	checkElements(t, "P7: parts that no text can write", c, []weighed{
		{"a", "1.1.1"},
		{"b", "fb41.20.2 dfff.0.0"},
		{"ab", "2.1.1"},
	})
}

// All elements are told, by any options.
func TestElementsHaveNoOptions(t *testing.T) {
	const table = exampleTable + "w 5f = 0.0.0 0.0.1 0.0.0\nw 2e = *4.20.2 0.21.2\n"
	for strength := 1; strength <= 4; strength++ {
		for _, shifted := range []bool{false, true} {
			c := mustNewWith(t, table, api.Options{Strength: strength, Shifted: shifted})
			checkElements(t, "P7: elements that count for nothing", c, []weighed{
				{"-\u0301_b.á", "*3.20.2 0.24.2 0.0.0 0.0.1 0.0.0 11.20.2 *4.20.2 0.21.2 10.20.2 0.24.2"},
				{"_", "0.0.0 0.0.1 0.0.0"},
			})
		}
	}
}

// partsTable makes a text of 64 bytes as long as it can be: 16 runes of each
// byte, 4 elements of each rune.
const partsTable = exampleTable + `d 31 32 32
d 32 33 33
d 33 34 34
d 34 301 323
c 323 dc
w 323 = 21.1.1 22.2.2 23.3.3 faff.1.1
`

func TestElementsLength(t *testing.T) {
	c := mustNew(t, partsTable)
	four := strings.Repeat("21.1.1 22.2.2 23.3.3 faff.1.1 ", 512)
	checkElements(t, "P7: 64 bytes", c, []weighed{
		{strings.Repeat("a", 64), strings.TrimSpace(strings.Repeat("10.20.2 ", 64))},
		{strings.Repeat("ch", 32), strings.TrimSpace(strings.Repeat("13.20.2 ", 32))},
		{strings.Repeat("\xff", 64), strings.TrimSpace(strings.Repeat("fb41.20.2 fffd.0.0 ", 64))},
		{strings.Repeat("1", 64), strings.TrimSpace(four + strings.Repeat("0.24.2 ", 512))},
	})
	for _, s := range longTexts() {
		if l, e := c.Elements(s); len(l) != 0 || e != api.ErrLong {
			t.Errorf("P7, P1: %d bytes: %s, %d, want ErrLong", len(s), wordsOf(l), e)
		}
	}
}

func TestElementsAreNewMemory(t *testing.T) {
	c, other := mustNew(t, growTable), mustNew(t, growTable)
	texts := []weighed{
		{"", ""},
		{"a", "1.1.1"},
		{"x", "fb40.20.2 8078.0.0"},
		{"aa", "1.1.1 1.1.1"},
		{"aab", "1.1.1 16.1.1"},
		{"a\u031b\u0301", "11.1.1 0.5.1"},
		{"a\u031b\u0323\u0301\u0345", "14.1.1 0.5.1 0.6.1"},
		{"xy\u0301", "fb40.20.2 8078.0.0 fb40.20.2 8079.0.0 0.1.1"},
	}
	var asked []string
	for _, w := range texts {
		asked = append(asked, w.s)
	}
	trash := api.Element{Primary: 7, Secondary: 7, Tertiary: 7, Variable: true}
	checkNewMemory(t, trash, asked, func(s string) []api.Element {
		l, _ := c.Elements(s)
		return l
	})
	checkElements(t, "P2: after answers were written into", c, texts)
	checkElements(t, "P2: another collator, after answers were written into", other, texts)
	checkNormal(t, "P2: after answers were written into", c, []normal{{"a\u0345\u0301\u031b", []int{0x61, 0x31b, 0x301, 0x345}}})
}

func TestElementsAtATime(t *testing.T) {
	c := mustNew(t, growTable)
	var all sync.WaitGroup
	for range 8 {
		all.Go(func() {
			for range 50 {
				checkElements(t, "P2: many at a time", c, []weighed{
					{"a\u031b\u0301\u0345", "12.1.1 0.5.1"},
					{"ab\u0323\u0300z", "17.1.1 0.3.1 fb40.20.2 807a.0.0"},
				})
				l, _ := c.Elements("a\u0301x")
				spoil(l, api.Element{Primary: 7})
			}
		})
	}
	all.Wait()
}
