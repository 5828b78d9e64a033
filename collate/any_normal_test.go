package collate

import (
	"slices"
	"strconv"
	"strings"
	"testing"

	"tome/api"
)

// plainText is what the document says of the normal form, told another way:
// one replacement and one exchange at a time, wherever the dice fall.
type plainText struct {
	class map[int]int
	parts map[int][]int
}

// plainRunes has its own reading of bytes, length by length.
func plainRunes(s string) []int {
	var runes []int
	for len(s) > 0 {
		r, size := 0xfffd, 1
		for n := 1; n <= min(4, len(s)); n++ {
			if value, ok := writtenRightly(s[:n]); ok {
				r, size = value, n
			}
		}
		runes = append(runes, r)
		s = s[size:]
	}
	return runes
}

func writtenRightly(s string) (int, bool) {
	if len(s) == 1 {
		return int(s[0]), s[0] < 0x80
	}
	head := []int{0, 0, 0xc0, 0xe0, 0xf0}[len(s)]
	room := []int{0, 0, 0x20, 0x10, 0x08}[len(s)]
	least := []int{0, 0, 0x80, 0x800, 0x10000}[len(s)]
	if int(s[0]) < head || int(s[0]) >= head+room {
		return 0, false
	}
	value := int(s[0]) - head
	for _, b := range []byte(s[1:]) {
		if b < 0x80 || b > 0xbf {
			return 0, false
		}
		value = value*64 + int(b) - 0x80
	}
	surrogate := value >= 0xd800 && value <= 0xdfff
	return value, value >= least && value <= 0x10ffff && !surrogate
}

func (p *plainText) normal(d *dice, s string) []int {
	runes := plainRunes(s)
	for {
		i := pick(d, len(runes), func(i int) bool { return p.parts[runes[i]] != nil })
		if i < 0 {
			break
		}
		runes = slices.Concat(runes[:i], p.parts[runes[i]], runes[i+1:])
	}
	for {
		i := pick(d, len(runes)-1, func(i int) bool {
			first, second := p.class[runes[i]], p.class[runes[i+1]]
			return first > second && second != 0
		})
		if i < 0 {
			return runes
		}
		runes[i], runes[i+1] = runes[i+1], runes[i]
	}
}

// pick answers one of the numbers below n that do, or -1.
func pick(d *dice, n int, does func(i int) bool) int {
	if n < 1 {
		return -1
	}
	from := d.below(n)
	for k := range n {
		if i := (from + k) % n; does(i) {
			return i
		}
	}
	return -1
}

// anyNames are runes of 1 to 4 bytes.
func anyNames() []int {
	return []int{0x41, 0x61, 0xe1, 0x301, 0x323, 0x7ff, 0x800, 0x1ea1, 0xd7ff, 0xe000, 0xfffd, 0xffff, 0x10000, 0x1f600, 0x10ffff, 0}
}

func anyParts(d *dice) (*plainText, string) {
	p := &plainText{class: map[int]int{}, parts: map[int][]int{}}
	names := anyNames()
	var table strings.Builder
	word := func(n int) string { return " " + strconv.FormatInt(int64(n), 16) }
	for i := range names {
		if class := []int{0, 0, 1, 2, 0xdc, 0xe6, 0xfe}[d.below(7)]; class != 0 {
			p.class[names[i]] = class
			table.WriteString("c" + word(names[i]) + word(class) + "\n")
		}
		// Three names a step have later ones as parts: that makes MaxDepth.
		next := i/3*3 + 3
		if next > 12 || d.below(3) == 0 {
			continue
		}
		table.WriteString("d" + word(names[i]))
		for range 1 + d.below(2) {
			part := names[next+d.below(len(names)-next)]
			p.parts[names[i]] = append(p.parts[names[i]], part)
			table.WriteString(word(part))
		}
		table.WriteString("\n")
	}
	return p, table.String()
}

func anyText(d *dice) string {
	names := anyNames()
	var s strings.Builder
	for range d.below(26) {
		if d.below(12) == 0 {
			s.WriteString(d.of("\x80", "\xff", "\xc3", "\xe1\xba", "\xed\xa0\x80", "\xc0\x80", "\xf4\x90\x80\x80", "\xf0\x9f", "\xe0\x80"))
			continue
		}
		s.WriteRune(rune(names[d.below(len(names))]))
	}
	return s.String()
}

func TestAnyNormal(t *testing.T) {
	d := dice(3)
	long, deep := 0, 0
	for range 1500 {
		p, table := anyParts(&d)
		c := mustNew(t, table)
		for range 12 {
			s := anyText(&d)
			if len(s) > api.MaxText {
				if l, e := c.Normal(s); len(l) != 0 || e != api.ErrLong {
					t.Fatalf("P6: %d bytes: %x, %d", len(s), l, e)
				}
				long++
				continue
			}
			checkNormal(t, "P6: any text, table "+strconv.Quote(table), c, []normal{{s, p.normal(&d, s)}})
			if t.Failed() {
				return
			}
			if l, _ := c.Normal(s); len(l) > 2*len(plainRunes(s)) {
				deep++
			}
		}
	}
	if long < 100 || deep < 100 {
		t.Errorf("the texts were too long %d times, and much replaced %d times", long, deep)
	}
}

func TestAnyBytesNormal(t *testing.T) {
	d := dice(4)
	c := mustNew(t, "")
	const heads = "\x00\x7f\x80\xbf\xc0\xc2\xdf\xe0\xed\xef\xf0\xf4\xf5\xff\x8f\x90\x9f\xa0"
	for range 60000 {
		s := make([]byte, d.below(9))
		for i := range s {
			s[i] = heads[d.below(len(heads))]
			if d.below(4) == 0 {
				s[i] = byte(d.below(256))
			}
		}
		checkNormal(t, "P6: any bytes", c, []normal{{string(s), plainRunes(string(s))}})
	}
}
