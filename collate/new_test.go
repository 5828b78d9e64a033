package collate

import (
	"slices"
	"strings"
	"sync"
	"testing"

	"tome/api"
)

// answer is what New is to answer for a table.
type answer struct {
	table string
	line  int
	e     api.Errno
}

func checkNew(t *testing.T, promise string, answers []answer) {
	t.Helper()
	for _, a := range answers {
		c, line, e := New(a.table, api.Options{Strength: 3})
		if line != a.line || e != a.e {
			t.Errorf("%s: New(%q) = %d, %d, want %d, %d", promise, a.table, line, e, a.line, a.e)
		}
		if (c != nil) != (e == api.OK) {
			t.Errorf("P1, P5: New(%q): a collator: %t, beside error %d", a.table, c != nil, e)
		}
	}
}

// checkWords has each word read in the place of @ in a line.
func checkWords(t *testing.T, promise string, line string, e api.Errno, words ...string) {
	t.Helper()
	for _, word := range words {
		want := answer{strings.Replace(line, "@", word, 1), 1, e}
		if e == api.OK {
			want.line = 0
		}
		checkNew(t, promise, []answer{want})
	}
}

const exampleTable = `w 61 = 10.20.2
w 62 = 11.20.2
w 63 68 = 13.20.2
w 63 = 12.20.2
w 301 = 0.24.2
c 301 e6
d e1 61 301
w 2d = *3.20.2
`

func TestStrength(t *testing.T) {
	for strength := 1; strength <= 4; strength++ {
		for _, shifted := range []bool{false, true} {
			c, line, e := New(exampleTable, api.Options{Strength: strength, Shifted: shifted})
			if c == nil || line != 0 || e != api.OK {
				t.Errorf("P3, P5: strength %d, shifted %t: %d, %d", strength, shifted, line, e)
			}
		}
	}
	long := strings.Repeat("x", api.MaxTable+1)
	for _, strength := range []int{0, 5, -1, -3, 1 << 62, -1 << 63} {
		for _, table := range []string{"", "x", exampleTable, long} {
			c, line, e := New(table, api.Options{Strength: strength})
			if c != nil || line != 0 || e != api.ErrOption {
				t.Errorf("P3: strength %d, %d bytes: %d, %d, want 0, ErrOption", strength, len(table), line, e)
			}
		}
	}
}

func TestTableLength(t *testing.T) {
	full := strings.Repeat("#\n", api.MaxTable/2)
	checkNew(t, "P3", []answer{
		{full, 0, api.OK},
		{full[1:] + "x", 4097, api.ErrLine},
		{full + "#", 0, api.ErrLong},
		{full + "\n", 0, api.ErrLong},
		{full + "x", 0, api.ErrLong},
		{"x\n" + full, 0, api.ErrLong},
		{strings.Repeat("x", api.MaxTable), 1, api.ErrLine},
		{strings.Repeat("x", api.MaxTable+1), 0, api.ErrLong},
		{strings.Repeat("x", 1<<20), 0, api.ErrLong},
	})
}

func TestLastLine(t *testing.T) {
	checkNew(t, "P3", []answer{
		{"", 0, api.OK},
		{"\n", 0, api.OK},
		{"c 1 1", 0, api.OK},
		{"c 1 1\n", 0, api.OK},
		{"c 1 1\n\n", 0, api.OK},
		{"c 1 1\nc 1 2", 2, api.ErrTwice},
		{"c 1 1\nc 1 2\n", 2, api.ErrTwice},
		{"c 1 1\n ", 2, api.ErrLine},
		{"c 1 1\n#", 0, api.OK},
		{"c 1 1\n#\nx", 3, api.ErrLine},
	})
	for _, table := range []string{"c 1 7", "c 1 7\n"} {
		c, _, _ := New(table, api.Options{Strength: 1})
		if c == nil || c.nodes[1].class != 7 {
			t.Errorf("P3: the last line of %q is not read", table)
		}
	}
}

func TestSilentLinesAreCounted(t *testing.T) {
	checkNew(t, "P3", []answer{
		{"\n\n\n", 0, api.OK},
		{"#\n# c 1\n##\n#\xff\x00", 0, api.OK},
		{"\nx", 2, api.ErrLine},
		{"#\n\n# \n\nx\n", 5, api.ErrLine},
		{" #", 1, api.ErrLine},
		{"c 1 1 # no", 1, api.ErrLine},
		{"c 1 1\n\n#\nc 1 1", 4, api.ErrTwice},
		{"#\n\nw 1 = 1.0.0", 3, api.ErrWeight},
	})
	checkNew(t, "P4", []answer{
		{"#\n\nd 1 1", 3, api.ErrLoop},
		{"\n#\nw 1 2 3 = 1.1.1\n#", 3, api.ErrPrefix},
		{"#\nw 1 = 1.1.1\n\nw 2 = *1.1.1\n\n", 4, api.ErrWeight},
	})
}

func TestNumbers(t *testing.T) {
	wrong := []string{
		"", "00", "01", "061", "000001", "0000001", "1000000", "A", "6A", "F", "g", "6g", "0x1", "x1",
		"+1", "-1", "1_0", "1.", "1h", "/", ":", "`", "@", "G", "*1", "\x00", "\xff", "é", "1\r", "1\t", "1\v", "１",
	}
	checkWords(t, "P3", "c @ 1", api.ErrLine, wrong...)
	checkWords(t, "P3", "c 1 @", api.ErrLine, wrong...)
	checkWords(t, "P3", "d @ 1", api.ErrLine, wrong...)
	checkWords(t, "P3", "d 1 @", api.ErrLine, wrong...)
	checkWords(t, "P3", "d 1 2 @", api.ErrLine, wrong...)
	checkWords(t, "P3", "w @ = 1.1.1", api.ErrLine, wrong...)
	checkWords(t, "P3", "w 1 @ = 1.1.1", api.ErrLine, wrong...)
	checkWords(t, "P3", "w 1 = 1.@.1", api.ErrLine, wrong...)
	checkWords(t, "P3", "w 1 = 1.1.@", api.ErrLine, wrong...)
	checkWords(t, "P3", "w 1 = *@.1.1", api.ErrLine, wrong...)
	right := []string{"0", "1", "9", "a", "f", "10", "1f", "abcde", "f0000", "100000", "10fffe", "10ffff"}
	checkWords(t, "P3", "c @ 1", api.OK, right...)
	checkWords(t, "P3", "d @ 2", api.OK, right...)
	checkWords(t, "P3", "d 2 @", api.OK, right...)
	checkWords(t, "P3", "d 2 @ 3", api.OK, right...)
	checkWords(t, "P3", "d 2 3 @", api.OK, right...)
	checkWords(t, "P3", "w @ = 1.1.1", api.OK, right...)
	checkWords(t, "P3", "w 2 @ = 1.1.1", api.OK, right...)
}

func TestGreatestNumbers(t *testing.T) {
	great := []string{"110000", "ffffff", "200000", "10fffff"}
	checkWords(t, "P3", "c @ 1", api.ErrLine, great...)
	checkWords(t, "P3", "d @ 1", api.ErrLine, great...)
	checkWords(t, "P3", "d 1 @", api.ErrLine, great...)
	checkWords(t, "P3", "d 1 2 @", api.ErrLine, great...)
	checkWords(t, "P3", "w @ = 1.1.1", api.ErrLine, great...)
	checkWords(t, "P3", "w 1 2 @ = 1.1.1", api.ErrLine, great...)
	checkWords(t, "P3", "c 1 @", api.OK, "1", "2", "7f", "80", "fd", "fe")
	checkWords(t, "P3", "c 1 @", api.ErrLine, "0", "ff", "100", "ffff", "ffffff")
	checkWords(t, "P3", "w 1 = @", api.OK, "faff.ffff.ffff", "0.ffff.ffff", "0.0.ffff", "*faff.ffff.ffff", "0.0.0")
	checkWords(t, "P3", "w 1 = @", api.ErrLine,
		"10000.1.1", "1.10000.1", "1.1.10000", "ffffff.1.1", "*10000.1.1", "10000.0.0", "0.0.10000")
}

func TestLineShapes(t *testing.T) {
	checkWords(t, "P3", "@", api.ErrLine,
		"x", " ", "  ", "c", "d", "w", "c ", "C 1 1", "cc 1 1", "c1 1", "1 1", "= 1.1.1", "\x00", "\r", "\t", "\xff",
		"c 1", "c 1 ", "c 1 1 1", "c 1 1 ", " c 1 1", "c  1 1", "c 1  1", "c\t1 1", "c 1\u00a01", "c 1 1\r",
		"d 1", "d 1 ", "d 1 2 3 4", "d 1 2 3 ", "d 1  2", " d 1 2", "d 1 = 2", "D 1 2",
		"w 1", "w 1 =", "w 1 = ", "w = 1.1.1", "w  = 1.1.1", "w 1 1.1.1", "w 1 == 1.1.1", "w 1 = = 1.1.1",
		"w 1 2 3 4 = 1.1.1", "w 1 2 3 4", "w 1 = 1.1.1 0.0.0 0.0.0 0.0.0 0.0.0", "w 1= 1.1.1", "w 1 =1.1.1",
		"w 1 = 1.1.1 ", "w 1 = 1.1.1  1.1.1", "w 1  = 1.1.1", "w 1 =  1.1.1", " w 1 = 1.1.1", "W 1 = 1.1.1")
	checkWords(t, "P3", "w 1 = @", api.ErrLine,
		"1", "1.1", "1.1.1.1", "1..1", ".1.1", "1.1.", "...", "..", ".", "*", "**1.1.1", "1.*1.1", "1.1.1*", "* 1.1.1",
		"1,1,1", "1.1,1", "1. 1.1", "*1.1", "*1.1.1.1", "x.1.1", "1.1.1=", "[1.1.1]")
	checkWords(t, "P3", "@", api.OK,
		"c 1 1", "d 1 2", "d 1 2 3", "d 1 2 2", "w 1 = 1.1.1", "w 1 1 = 1.1.1", "w 1 2 = *1.1.1",
		"w 1 = 1.1.1 0.0.0", "w 1 = 1.1.1 0.0.1 0.0.0", "w 1 = 2.1.1 0.1.1 0.0.1 *1.1.1")
}

func TestTwice(t *testing.T) {
	checkNew(t, "P3", []answer{
		{"c 1 1\nc 1 1", 2, api.ErrTwice},
		{"c 1 1\nc 2 1\nc 1 2", 3, api.ErrTwice},
		{"c 0 1\nc 0 1", 2, api.ErrTwice},
		{"d 1 2\nd 1 2", 2, api.ErrTwice},
		{"d 1 2\nd 1 3 4", 2, api.ErrTwice},
		{"d 1 3 4\nd 1 2", 2, api.ErrTwice},
		{"d 1 1\nd 1 1", 2, api.ErrTwice},
		{"w 1 = 1.1.1\nw 1 = 1.1.1", 2, api.ErrTwice},
		{"w 1 2 = 1.1.1\nw 1 2 = 2.1.1", 2, api.ErrTwice},
		{"w 1 2 3 = 1.1.1\nw 1 2 = 1.1.1\nw 1 2 3 = 1.1.1 1.1.1", 3, api.ErrTwice},
		// A rune may have one line of each kind, and stand where it will.
		{"c 1 1\nd 1 2\nc 2 1\nw 2 = 1.1.1", 0, api.OK},
		{"d 1 2\nc 1 1", 0, api.OK},
		{"w 1 = 1.1.1\nc 1 1", 0, api.OK},
		{"d 1 2\nd 3 2\nd 4 2 2", 0, api.OK},
		{"c 1 1\nc 11 1\nc 111 1", 0, api.OK},
		{"w 1 = 1.1.1\nw 1 1 = 1.1.1\nw 1 1 1 = 1.1.1\nw 1 2 = 1.1.1\nw 2 1 = 1.1.1\nw 1 2 1 = 1.1.1", 0, api.OK},
		{"w 0 = 1.1.1\nw 0 0 = 1.1.1\nw 0 0 0 = 1.1.1", 0, api.OK},
		{"w 1 11 = 1.1.1\nw 11 1 = 1.1.1\nw 111 = 1.1.1", 0, api.OK},
	})
}

func TestWeights(t *testing.T) {
	checkWords(t, "P3", "w 1 = @", api.ErrWeight,
		"1.0.0", "1.0.1", "1.1.0", "0.1.0", "faff.0.0", "*0.1.1", "*0.0.1", "*0.0.0", "*1.0.1", "*1.1.0",
		"fb00.1.1", "fb01.1.1", "fb40.20.2", "ffff.ffff.ffff", "*fb00.1.1", "*ffff.1.1", "fb00.0.0",
		"1.1.1 1.0.0", "1.0.0 1.1.1", "1.1.1 0.1.1 0.0.1 0.1.0", "1.1.1 1.1.1 1.1.1 fb00.1.1")
	checkWords(t, "P3", "w 1 = @", api.OK,
		"1.1.1", "0.1.1", "0.0.1", "0.0.0", "faff.1.1", "fafe.1.1", "*1.1.1", "*faff.1.1", "1.ffff.1", "1.1.ffff",
		"1.fb00.1", "1.1.fb00", "0.fb00.fb00", "0.0.0 0.0.0 0.0.0 0.0.0", "1.2.3 1.2.3 0.2.3 0.0.3")
}

func TestWhichIsTold(t *testing.T) {
	checkNew(t, "P3", []answer{
		// Of one line: ErrLine, ErrTwice, ErrWeight.
		{"c 1 1\nc 1 0", 2, api.ErrLine},
		{"d 1 2\nd 1 2 3 4", 2, api.ErrLine},
		{"w 1 = 1.1.1\nw 1 = 1.1", 2, api.ErrLine},
		{"w 1 = 1.0.0 x", 1, api.ErrLine},
		{"w 1 = fb00.1.1 1.1", 1, api.ErrLine},
		{"w 1 = 1.1.1\nw 1 = 1.0.0 1", 2, api.ErrLine},
		{"w 1 = 1.1.1\nw 1 = 1.0.0", 2, api.ErrTwice},
		{"w 1 = 1.1.1\nw 1 = fb00.1.1", 2, api.ErrTwice},
		// Of several lines: the first one.
		{"w 1 = 1.0.0\nx", 1, api.ErrWeight},
		{"c 1 1\nc 1 1\nx", 2, api.ErrTwice},
		{"x\nc 1 1\nc 1 1", 1, api.ErrLine},
		{"w 1 = 1.0.0\nw 1 = 1.1.1\nw 1 = 1.1.1", 1, api.ErrWeight},
		{"x\ny", 1, api.ErrLine},
	})
	checkNew(t, "P4", []answer{
		// What one line says is looked at ahead of what all say together.
		{"d 1 1\nx", 2, api.ErrLine},
		{"w 1 2 3 = 1.1.1\nc 1 1\nc 1 1", 3, api.ErrTwice},
		{"w 1 = *2.1.1\nw 2 = 1.1.1\nw 3 = 1.0.0", 3, api.ErrWeight},
		// Of all together: ErrLoop, ErrPrefix, ErrWeight, wherever they stand.
		{"w 1 2 3 = 1.1.1\nd 5 5", 2, api.ErrLoop},
		{"w 5 = 1.1.1\nd 5 5", 2, api.ErrLoop},
		{"w 1 = *2.1.1\nw 2 = 1.1.1\nd 5 5", 3, api.ErrLoop},
		{"w 1 = *2.1.1\nw 2 = 1.1.1\nw 3 4 5 = 2.1.1", 3, api.ErrPrefix},
		{"w 1 2 3 = *2.1.1\nw 2 = 1.1.1", 1, api.ErrPrefix},
	})
}

func TestLoop(t *testing.T) {
	checkNew(t, "P4", []answer{
		{"d 1 1", 1, api.ErrLoop},
		{"d 1 2 1", 1, api.ErrLoop},
		{"d 1 1 2", 1, api.ErrLoop},
		{"d 1 2\nd 2 1", 1, api.ErrLoop},
		{"d 1 2\nd 2 3\nd 3 1", 1, api.ErrLoop},
		{"c 1 1\nd 4 5\nd 1 2\nd 2 9 3\nd 3 9 1", 3, api.ErrLoop},
		// What leads into a loop comes to no end either.
		{"d 5 6\nd 1 2\nd 2 2", 2, api.ErrLoop},
		{"d 2 2\nd 1 2", 1, api.ErrLoop},
		{"d 1 7 2\nd 2 7 3\nd 3 7 2", 1, api.ErrLoop},
		// Steps.
		{"d 1 2", 0, api.OK},
		{"d 1 2\nd 2 3\nd 3 4\nd 4 5", 0, api.OK},
		{"d 4 5\nd 3 4\nd 2 3\nd 1 2", 0, api.OK},
		{"d 1 2\nd 2 3\nd 3 4\nd 4 5\nd 5 6", 1, api.ErrLoop},
		{"d 5 6\nd 4 5\nd 3 4\nd 2 3\nd 1 2", 5, api.ErrLoop},
		{"d 5 6\nd 4 5\nd 3 4\nd 2 3\nd 1 2\nd 0 1", 5, api.ErrLoop},
		{"d 0 1\nd 5 6\nd 4 5\nd 3 4\nd 2 3\nd 1 2", 1, api.ErrLoop},
		{"d 1 9 2\nd 2 9 3\nd 3 9 4\nd 4 9 5", 0, api.OK},
		{"d 1 9 2\nd 2 9 3\nd 3 9 4\nd 4 9 5\nd 5 9 6", 1, api.ErrLoop},
		{"d 1 2 9\nd 2 3 9\nd 3 4 9\nd 4 5 9\nd 5 6 9", 1, api.ErrLoop},
		{"d 1 2 2\nd 2 3 3\nd 3 4 4\nd 4 5 5", 0, api.OK},
		{"d 1 2 3\nd 2 4\nd 3 4\nd 4 5", 0, api.OK},
		{"d 1 2\nd 2 3\nd 3 4\nd 4 5\nd 10ffff 1 0", 5, api.ErrLoop},
		{"d 0 1\nd 1 2\nd 2 3\nd 3 4\nd 5 6\nd 6 7\nd 7 8\nd 8 9", 0, api.OK},
		{"d 0 1\nd 1 0", 1, api.ErrLoop},
	})
}

func TestPrefix(t *testing.T) {
	checkNew(t, "P4", []answer{
		{"w 1 2 3 = 1.1.1", 1, api.ErrPrefix},
		{"w 1 = 1.1.1\nw 2 = 1.1.1\nw 1 2 3 = 1.1.1", 3, api.ErrPrefix},
		{"w 2 3 = 1.1.1\nw 1 3 = 1.1.1\nw 2 1 = 1.1.1\nw 1 2 3 = 1.1.1", 4, api.ErrPrefix},
		{"w 1 2 4 = 1.1.1\nw 1 2 3 = 1.1.1", 1, api.ErrPrefix},
		{"w 1 2 = 1.1.1\nw 1 2 3 = 1.1.1", 0, api.OK},
		{"w 1 2 3 = 1.1.1\nw 1 2 = 1.1.1", 0, api.OK},
		{"w 1 2 = 1.1.1\nw 1 2 3 = 1.1.1\nw 2 1 3 = 1.1.1", 3, api.ErrPrefix},
		{"w 1 2 = 1.1.1", 0, api.OK},
		{"w 0 0 0 = 1.1.1", 1, api.ErrPrefix},
		{"w 0 = 1.1.1\nw 0 0 0 = 1.1.1", 2, api.ErrPrefix},
		// Runes that have parts, in each place.
		{"d 1 9\nw 1 = 1.1.1", 2, api.ErrPrefix},
		{"w 1 = 1.1.1\nd 1 9", 1, api.ErrPrefix},
		{"d 1 9\nw 2 1 = 1.1.1", 2, api.ErrPrefix},
		{"w 1 2 = 1.1.1\nd 1 9 8", 1, api.ErrPrefix},
		{"w 2 3 = 1.1.1\nw 2 3 1 = 1.1.1\nd 1 9", 2, api.ErrPrefix},
		{"w 9 = 1.1.1\nw 2 = 1.1.1\nw 1 = 1.1.1\nw 1 2 = 1.1.1\nd 1 9", 3, api.ErrPrefix},
		{"w 9 = 1.1.1\nw 8 9 = 1.1.1\nd 1 9 8", 0, api.OK},
		{"w 0 = 1.1.1\nd 0 1", 1, api.ErrPrefix},
	})
}

func TestVariableWeights(t *testing.T) {
	checkNew(t, "P4", []answer{
		{"w 1 = *2.1.1\nw 2 = 3.1.1", 0, api.OK},
		{"w 1 = *2.1.1\nw 2 = 2.1.1", 1, api.ErrWeight},
		{"w 1 = *3.1.1\nw 2 = 2.1.1", 1, api.ErrWeight},
		{"w 2 = 2.1.1\nw 1 = *3.1.1", 2, api.ErrWeight},
		{"w 1 = *2.1.1 2.1.1", 1, api.ErrWeight},
		{"w 1 = 3.1.1 *2.1.1", 0, api.OK},
		{"w 2 = 9.1.1 9.1.1 9.1.1 5.1.1\nw 1 = *4.1.1 *5.1.1", 2, api.ErrWeight},
		{"w 2 = 9.1.1 9.1.1 9.1.1 5.1.1\nw 1 = *4.1.1 *4.1.1", 0, api.OK},
		{"w 2 = 5.1.1\nw 3 = 9.1.1\nw 1 = *6.1.1", 3, api.ErrWeight},
		{"w 3 = 9.1.1\nw 2 = 5.1.1\nw 1 = *6.1.1", 3, api.ErrWeight},
		{"w 1 = *6.1.1\nw 3 = 9.1.1\nw 2 = 5.1.1\nw 4 = *7.1.1", 1, api.ErrWeight},
		{"w 1 = *4.1.1\nw 3 = 9.1.1\nw 2 = 5.1.1\nw 4 = *7.1.1\nw 6 = *8.1.1", 4, api.ErrWeight},
		// Weights that are 0, and those of variable elements, are no bound.
		{"w 1 = *2.1.1\nw 2 = 0.1.1 0.0.1 0.0.0", 0, api.OK},
		{"w 1 = *2.1.1\nw 2 = *1.1.1\nw 3 = *3.1.1", 0, api.OK},
		{"w 1 = *faff.1.1\nw 2 = *1.1.1", 0, api.OK},
		{"w 1 = *faff.1.1\nw 2 = faff.1.1", 1, api.ErrWeight},
		{"w 1 = *fafe.1.1\nw 2 = faff.1.1", 0, api.OK},
		{"w 1 2 = 1.1.1\nw 1 = *1.1.1", 2, api.ErrWeight},
	})
}

func TestExample5(t *testing.T) {
	checkNew(t, "P3 to P5, example 5", []answer{
		{exampleTable, 0, api.OK},
		{"w 62 = 11.20.2\nw 61 = 10", 2, api.ErrLine},
		{"\nw 61 = 10\n", 2, api.ErrLine},
		{"d e1 e1", 1, api.ErrLoop},
		{"w 61 62 63 = 1.1.1", 1, api.ErrPrefix},
		{"w 61 = 1.0.0", 1, api.ErrWeight},
	})
}

func TestWhatTheTableSays(t *testing.T) {
	o := api.Options{Strength: 2, Shifted: true}
	c, _, e := New(exampleTable+"w 61 62 = 10.20.2 *1.2.3\nw 61 62 63 = 0.0.0 11.1.1 0.1.2 0.0.ffff\nd 100 10ffff\nc 61 fe", o)
	if e != api.OK {
		t.Fatalf("P5: error %d", e)
	}
	if c.options != o {
		t.Errorf("P5: the options are %v", c.options)
	}
	for _, r := range []struct{ name, class int }{{0x301, 0xe6}, {0x61, 0xfe}, {0x62, 0}, {0xe1, 0}, {0x7a, 0}} {
		if got := c.nodes[r.name].class; got != r.class {
			t.Errorf("P5: the class of %x is %x, want %x", r.name, got, r.class)
		}
	}
	for name, want := range map[int][]int{0xe1: {0x61, 0x301}, 0x100: {0x10ffff}, 0x61: nil, 0x7a: nil} {
		if got := c.nodes[name].parts; !slices.Equal(got, want) {
			t.Errorf("P5: the parts of %x are %x, want %x", name, got, want)
		}
	}
	want := []sequence{
		{[]int{0x61}, []api.Element{{Primary: 0x10, Secondary: 0x20, Tertiary: 2}}},
		{[]int{0x61, 0x62}, []api.Element{{Primary: 0x10, Secondary: 0x20, Tertiary: 2}, {Primary: 1, Secondary: 2, Tertiary: 3, Variable: true}}},
		{[]int{0x61, 0x62, 0x63}, []api.Element{{}, {Primary: 0x11, Secondary: 1, Tertiary: 1}, {Secondary: 1, Tertiary: 2}, {Tertiary: 0xffff}}},
	}
	if got := c.nodes[0x61].sequences; !slices.EqualFunc(got, want, sameSequence) {
		t.Errorf("P5: the sequences that begin with 61 are %v, want %v", got, want)
	}
}

func sameSequence(a sequence, b sequence) bool {
	return slices.Equal(a.runes, b.runes) && slices.Equal(a.elements, b.elements)
}

func TestCollatorsAreApart(t *testing.T) {
	o := api.Options{Strength: 3}
	a, _, _ := New(exampleTable, o)
	b, _, _ := New(exampleTable, o)
	if a == nil || b == nil || a == b {
		t.Fatal("P2: two calls of New answer no two collators")
	}
	a.nodes[0xe1].parts[0] = 0
	a.nodes[0x61].sequences[0].runes[0] = 0
	a.nodes[0x61].sequences[0].elements[0] = api.Element{}
	clear(a.nodes)
	if b.nodes[0xe1].parts[0] != 0x61 || b.nodes[0x61].sequences[0].runes[0] != 0x61 || b.nodes[0x61].sequences[0].elements[0].Primary != 0x10 {
		t.Error("P2: what is written into one collator is seen in another")
	}
	// Neither does a table that was refused leave anything behind.
	checkNew(t, "P1, P2", []answer{
		{"c 1 1\nd 1 2\nw 3 = 1.1.1\nx", 4, api.ErrLine},
		{"c 1 1\nd 1 2\nw 3 = 1.1.1", 0, api.OK},
		{"c 1 1\nd 1 2\nw 3 = 1.1.1", 0, api.OK},
	})
}

func TestManyAtATime(t *testing.T) {
	var all sync.WaitGroup
	for range 8 {
		all.Go(func() {
			for range 50 {
				checkNew(t, "P2", []answer{
					{exampleTable, 0, api.OK},
					{exampleTable + "w 61 = 10", 9, api.ErrLine},
					{exampleTable + "d 61 e1", 7, api.ErrLoop},
				})
			}
		})
	}
	all.Wait()
}
