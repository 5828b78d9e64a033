package collate

import (
	"slices"
	"strings"
	"sync"
	"testing"

	"tome/api"
)

func mustNew(t *testing.T, table string) *Collator {
	t.Helper()
	return mustNewWith(t, table, api.Options{Strength: 3})
}

func mustNewWith(t *testing.T, table string, o api.Options) *Collator {
	t.Helper()
	c, line, e := New(table, o)
	if c == nil {
		t.Fatalf("P5: New(%q) = %d, %d", table, line, e)
	}
	return c
}

// normal is what Normal is to answer for a text.
type normal struct {
	s    string
	want []int
}

func checkNormal(t *testing.T, promise string, c *Collator, forms []normal) {
	t.Helper()
	for _, f := range forms {
		if l, e := c.Normal(f.s); !slices.Equal(l, f.want) || e != api.OK {
			t.Errorf("%s: Normal(%q) = %x, %d, want %x", promise, f.s, l, e, f.want)
		}
	}
}

func TestExample1(t *testing.T) {
	checkNormal(t, "P6, example 1", mustNew(t, exampleTable), []normal{
		{"\xc3\xa1", []int{0x61, 0x301}},
		{"a\u0301", []int{0x61, 0x301}},
		{"a\xff", []int{0x61, 0xfffd}},
	})
}

func TestParts(t *testing.T) {
	c := mustNew(t, `d 41 61
d 42 61 62
d 43 62 61
d 44 63 63
d 101 102
d 102 103
d 103 104
d 104 105
d 201 78 202
d 202 203 78
d 203 78 204
d 204 205 78
d 301 41 42
d 302 301 301
d 303 302 61
d fffd 78 79
d 0 10ffff
d 10ffff 1 2
d 304 d800 dfff
`)
	checkNormal(t, "P6: parts", c, []normal{
		{"", nil},
		{"a", []int{0x61}},
		{"ba", []int{0x62, 0x61}},
		{"A", []int{0x61}},
		{"BC", []int{0x61, 0x62, 0x62, 0x61}},
		{"aBa", []int{0x61, 0x61, 0x62, 0x61}},
		{"D", []int{0x63, 0x63}},
		{"\u0301", []int{0x61, 0x61, 0x62}},
		{"\u0302", []int{0x61, 0x61, 0x62, 0x61, 0x61, 0x62}},
	})
	checkNormal(t, "P6: parts of parts", c, []normal{
		{"\u0104", []int{0x105}},
		{"\u0103", []int{0x105}},
		{"\u0102", []int{0x105}},
		{"\u0101", []int{0x105}},
		{"\u0105", []int{0x105}},
		{"\u0204", []int{0x205, 0x78}},
		{"\u0203", []int{0x78, 0x205, 0x78}},
		{"\u0202", []int{0x78, 0x205, 0x78, 0x78}},
		{"\u0201", []int{0x78, 0x78, 0x205, 0x78, 0x78}},
		{"\u0303", []int{0x61, 0x61, 0x62, 0x61, 0x61, 0x62, 0x61}},
	})
	checkNormal(t, "P6: parts of any rune", c, []normal{
		{"\ufffd", []int{0x78, 0x79}},
		{"a\xffa", []int{0x61, 0x78, 0x79, 0x61}},
		{"\x00", []int{1, 2}},
		{"\U0010ffff\x01", []int{1, 2, 1}},
		{"\u0304", []int{0xd800, 0xdfff}},
	})
}

const markTable = `c 301 e6
c 300 e6
c 323 dc
c 345 f0
c 334 1
c 350 fe
d 1ea1 61 323
d e1 61 301
d e2 e1 323
d 344 308 301
c 308 e6
d c0 345 c1
d c1 323 62
d c2 301 345
d c3 323 334
c c3 fe
w 61 = 10.20.2
w 301 = 0.24.2
w 61 301 = 15.20.2
`

func TestMarks(t *testing.T) {
	checkNormal(t, "P6: marks", mustNew(t, markTable), []normal{
		// Several classes in several orders.
		{"a\u0323\u0301", []int{0x61, 0x323, 0x301}},
		{"a\u0301\u0323", []int{0x61, 0x323, 0x301}},
		{"a\u0301\u0345\u0323", []int{0x61, 0x323, 0x301, 0x345}},
		{"a\u0345\u0301\u0323", []int{0x61, 0x323, 0x301, 0x345}},
		{"a\u0345\u0323\u0301", []int{0x61, 0x323, 0x301, 0x345}},
		{"a\u0350\u0345\u0301\u0323\u0334", []int{0x61, 0x334, 0x323, 0x301, 0x345, 0x350}},
		{"a\u0350\u0334\u0350\u0334", []int{0x61, 0x334, 0x334, 0x350, 0x350}},
		// One class: the order stays, though others pass.
		{"a\u0301\u0300", []int{0x61, 0x301, 0x300}},
		{"a\u0300\u0301", []int{0x61, 0x300, 0x301}},
		{"a\u0300\u0301\u0300", []int{0x61, 0x300, 0x301, 0x300}},
		{"a\u0301\u0323\u0300", []int{0x61, 0x323, 0x301, 0x300}},
		{"a\u0345\u0301\u0323\u0300\u0334\u0308", []int{0x61, 0x334, 0x323, 0x301, 0x300, 0x308, 0x345}},
		// A rune of class 0 is not passed, and passes none.
		{"a\u0301b\u0323", []int{0x61, 0x301, 0x62, 0x323}},
		{"\u0301a\u0323", []int{0x301, 0x61, 0x323}},
		{"\u0345\u0301a\u0345\u0323b\u0301\u0334", []int{0x301, 0x345, 0x61, 0x323, 0x345, 0x62, 0x334, 0x301}},
		{"\u0301\xff\u0323", []int{0x301, 0xfffd, 0x323}},
		{"ba\u0301", []int{0x62, 0x61, 0x301}},
		// Marks at the left end.
		{"\u0301", []int{0x301}},
		{"\u0301\u0323", []int{0x323, 0x301}},
		{"\u0345\u0301\u0323a", []int{0x323, 0x301, 0x345, 0x61}},
	})
}

func TestMarksOfParts(t *testing.T) {
	checkNormal(t, "P6: marks of parts", mustNew(t, markTable), []normal{
		{"\u1ea1\u0301", []int{0x61, 0x323, 0x301}},
		{"\u00e1\u0323", []int{0x61, 0x323, 0x301}},
		{"\u00e2", []int{0x61, 0x323, 0x301}},
		{"\u00e2\u0334", []int{0x61, 0x334, 0x323, 0x301}},
		{"\u00e1\u0300", []int{0x61, 0x301, 0x300}},
		{"a\u0344\u0323", []int{0x61, 0x323, 0x308, 0x301}},
		{"\u0301\u00c0\u0334", []int{0x323, 0x301, 0x345, 0x62, 0x334}},
		{"\u00c2\u00c2", []int{0x301, 0x301, 0x345, 0x345}},
		// The class of a rune that has parts counts for nothing.
		{"a\u00c3\u0301", []int{0x61, 0x334, 0x323, 0x301}},
		{"a\u0350\u00c3b", []int{0x61, 0x334, 0x323, 0x350, 0x62}},
	})
}

func TestBrokenBytes(t *testing.T) {
	c := mustNew(t, exampleTable)
	for _, s := range []string{
		"\x80", "\xbf", "\xc0", "\xc1", "\xf5", "\xf8", "\xfe", "\xff",
		"\xc3", "\xe1\xba", "\xe1", "\xf0\x9f\x98", "\xf0\x9f", "\xf0",
		"\xc0\x80", "\xc1\xbf", "\xe0\x80\x80", "\xe0\x9f\xbf", "\xf0\x80\x80\x80", "\xf0\x8f\xbf\xbf",
		"\xed\xa0\x80", "\xed\xbf\xbf", "\xed\xa0\xbd\xed\xb8\x80",
		"\xf4\x90\x80\x80", "\xf7\xbf\xbf\xbf", "\xf8\x88\x80\x80\x80", "\xfc\x84\x80\x80\x80\x80",
	} {
		broken := slices.Repeat([]int{0xfffd}, len(s))
		checkNormal(t, "P6: bytes that are no rune", c, []normal{
			{s, broken},
			{s + "a", append(slices.Clone(broken), 0x61)},
			{"a" + s, append([]int{0x61}, broken...)},
			{s + "á", append(slices.Clone(broken), 0x61, 0x301)},
		})
	}
	checkNormal(t, "P6: bytes that are runes", c, []normal{
		{"\ufffd", []int{0xfffd}},
		{"\x00\x7f", []int{0, 0x7f}},
		{"\xc2\x80\xdf\xbf", []int{0x80, 0x7ff}},
		{"\xe0\xa0\x80\xef\xbf\xbf", []int{0x800, 0xffff}},
		{"\xed\x9f\xbf\xee\x80\x80", []int{0xd7ff, 0xe000}},
		{"\xf0\x90\x80\x80\xf4\x8f\xbf\xbf", []int{0x10000, 0x10ffff}},
		{"\xe1\xc3\xa1", []int{0xfffd, 0x61, 0x301}},
		{"\xc3\xa1\xa1", []int{0x61, 0x301, 0xfffd}},
	})
}

func longTexts() []string {
	return []string{
		strings.Repeat("a", 65), strings.Repeat("á", 32) + "a", strings.Repeat("\U0010ffff", 17),
		strings.Repeat("\xff", 65), strings.Repeat("\x00", 66), strings.Repeat("a", 1<<20),
	}
}

func TestTextLength(t *testing.T) {
	c := mustNew(t, exampleTable+"d 31 32 32\nd 32 33 33\nd 33 34 34\nd 34 301 323\nc 323 dc\n")
	checkNormal(t, "P6: 64 bytes", c, []normal{
		{strings.Repeat("a", 64), slices.Repeat([]int{0x61}, 64)},
		{strings.Repeat("á", 32), slices.Repeat([]int{0x61, 0x301}, 32)},
		{strings.Repeat("\xff", 64), slices.Repeat([]int{0xfffd}, 64)},
		{strings.Repeat("1", 64), slices.Concat(slices.Repeat([]int{0x323}, 512), slices.Repeat([]int{0x301}, 512))},
		{strings.Repeat("a", 63), slices.Repeat([]int{0x61}, 63)},
	})
	for _, s := range longTexts() {
		if l, e := c.Normal(s); len(l) != 0 || e != api.ErrLong {
			t.Errorf("P6, P1: %d bytes: %x, %d, want ErrLong", len(s), l, e)
		}
	}
}

func TestNormalHasNoOptions(t *testing.T) {
	for strength := 1; strength <= 4; strength++ {
		for _, shifted := range []bool{false, true} {
			c, _, _ := New(exampleTable, api.Options{Strength: strength, Shifted: shifted})
			checkNormal(t, "P6: any options", c, []normal{{"á-b\xff", []int{0x61, 0x301, 0x2d, 0x62, 0xfffd}}})
		}
	}
	checkNormal(t, "P6: a table that says nothing", mustNew(t, ""), []normal{{"á\u0301b", []int{0xe1, 0x301, 0x62}}})
}

// spoil writes behind a list, then over it and all its spare room.
func spoil[T any](l []T, trash T) {
	_ = append(l, trash)
	whole := l[:cap(l)]
	for i := range whole {
		whole[i] = trash
	}
}

// checkNewMemory asks twice for each text, then spoils one answer after the
// other, and looks whether that shows in those that are not spoilt yet.
func checkNewMemory[T comparable](t *testing.T, trash T, texts []string, ask func(s string) []T) {
	t.Helper()
	var answers, wants [][]T
	for _, s := range slices.Concat(texts, texts) {
		l := ask(s)
		answers = append(answers, l)
		wants = append(wants, slices.Clone(l))
	}
	for i, l := range answers {
		spoil(l, trash)
		for k := i + 1; k < len(answers); k++ {
			if !slices.Equal(answers[k], wants[k]) {
				t.Errorf("P2: answer %d is %v, want %v, after answer %d was written into", k, answers[k], wants[k], i)
			}
			if slices.Contains(answers[k][:cap(answers[k])], trash) {
				t.Errorf("P2: the spare room of answer %d is that of answer %d", k, i)
			}
		}
	}
	for i, s := range texts {
		if l := ask(s); !slices.Equal(l, wants[i]) {
			t.Errorf("P2: the answer for %q is %v, want %v, after answers were written into", s, l, wants[i])
		}
	}
}

func TestNormalIsNewMemory(t *testing.T) {
	const table = exampleTable + "c 323 dc\nd 1ea1 61 323\nd 1eb7 1ea1 301\n"
	c, other := mustNew(t, table), mustNew(t, table)
	forms := []normal{
		{"", nil},
		{"a", []int{0x61}},
		{"á", []int{0x61, 0x301}},
		{"ạ", []int{0x61, 0x323}},
		{"\u1eb7", []int{0x61, 0x323, 0x301}},
		{"b\u1eb7á\u0323", []int{0x62, 0x61, 0x323, 0x301, 0x61, 0x323, 0x301}},
		{"a\xff\xffb\u1eb7", []int{0x61, 0xfffd, 0xfffd, 0x62, 0x61, 0x323, 0x301}},
	}
	var texts []string
	for _, f := range forms {
		texts = append(texts, f.s)
	}
	checkNewMemory(t, 7, texts, func(s string) []int {
		l, _ := c.Normal(s)
		return l
	})
	checkNormal(t, "P2: after answers were written into", c, forms)
	checkNormal(t, "P2: another collator, after answers were written into", other, forms)
}

func TestNormalAtATime(t *testing.T) {
	c := mustNew(t, markTable)
	var all sync.WaitGroup
	for range 8 {
		all.Go(func() {
			for range 50 {
				checkNormal(t, "P2: many at a time", c, []normal{
					{"\u00e2\u0334", []int{0x61, 0x334, 0x323, 0x301}},
					{"\u0345\u0301\u0323a", []int{0x323, 0x301, 0x345, 0x61}},
				})
				l, _ := c.Normal("a\u0301\u0323")
				spoil(l, 7)
			}
		})
	}
	all.Wait()
}
