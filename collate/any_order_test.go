package collate

import (
	"fmt"
	"slices"
	"strings"
	"testing"

	"tome/api"
)

// plainOrder is what the document says of elements and levels, told another
// way: every rune is held against all that are left ahead of it, every level
// is gone through by itself, and numbers are compared as words.
type plainOrder struct {
	plainText
	sequences map[string][]api.Element
	jumped    int // runes taken out from behind others
	kept      int // runes left that were not free
	twice     int // sequences that grew twice
}

func plainTable(table string) *plainOrder {
	p := &plainOrder{
		plainText: plainText{class: map[int]int{}, parts: map[int][]int{}},
		sequences: map[string][]api.Element{},
	}
	for _, line := range strings.Split(table, "\n") {
		if m := formC.FindStringSubmatch(line); m != nil {
			p.class[hex(m[1])] = hex(m[2])
		}
		if m := formD.FindStringSubmatch(line); m != nil {
			for _, part := range strings.Fields(m[2]) {
				p.parts[hex(m[1])] = append(p.parts[hex(m[1])], hex(part))
			}
		}
		if m := formW.FindStringSubmatch(line); m != nil {
			p.sequences[m[1]] = elementsOf(line)
		}
	}
	return p
}

func namesOf(runes []int) string {
	var names []string
	for _, r := range runes {
		names = append(names, fmt.Sprintf("%x", r))
	}
	return strings.Join(names, " ")
}

func (p *plainOrder) elements(left []int) []api.Element {
	var elements []api.Element
	for len(left) > 0 {
		size := 1
		for n := range min(3, len(left)) {
			if p.sequences[namesOf(left[:n+1])] != nil {
				size = n + 1
			}
		}
		s := left[:size]
		s, left = p.grow(s, left[size:])
		l := p.sequences[namesOf(s)]
		if l == nil {
			l = []api.Element{{Primary: 0xfb40 + s[0]>>15, Secondary: 32, Tertiary: 2}, {Primary: s[0]&0x7fff | 0x8000}}
		}
		elements = slices.Concat(elements, l)
	}
	return elements
}

func (p *plainOrder) grow(s []int, behind []int) ([]int, []int) {
	var stay []int
	grew := 0
	for i, r := range behind {
		if p.class[r] == 0 || len(s) == 3 {
			stay = slices.Concat(stay, behind[i:])
			break
		}
		free := !slices.ContainsFunc(stay, func(other int) bool { return p.class[other] >= p.class[r] })
		grown := slices.Concat(s, []int{r})
		switch {
		case p.sequences[namesOf(grown)] == nil:
			stay = slices.Concat(stay, []int{r})
		case !free:
			stay = slices.Concat(stay, []int{r})
			p.kept++
		default:
			s = grown
			grew++
			if len(stay) > 0 {
				p.jumped++
			}
		}
	}
	if grew == 2 {
		p.twice++
	}
	return s, stay
}

func (p *plainOrder) level(l []api.Element, level int, shifted bool) string {
	var words []string
	for i := range l {
		if n := plainWeight(l[:i], l[i], level, shifted); n != 0 {
			words = append(words, fmt.Sprintf("%04x", n))
		}
	}
	return strings.Join(words, " ")
}

func plainWeight(ahead []api.Element, e api.Element, level int, shifted bool) int {
	own := []int{e.Primary, e.Secondary, e.Tertiary}
	if !shifted {
		return append(own, 0)[level-1]
	}
	if e.Variable {
		return []int{0, 0, 0, e.Primary}[level-1]
	}
	if e.Primary == 0 {
		for _, last := range slices.Backward(ahead) {
			if last.Variable {
				return 0
			}
			if last.Primary != 0 {
				break
			}
		}
	}
	if slices.Max(own) == 0 {
		return 0
	}
	return append(own, 0xffff)[level-1]
}

// standing is a row of words; words of one length are compared as numbers
// are.
func (p *plainOrder) standing(d *dice, s string, o api.Options) []string {
	runes := p.normal(d, s)
	l := p.elements(runes)
	var words []string
	for level := 1; level <= o.Strength; level++ {
		words = append(words, p.level(l, level, o.Shifted))
	}
	names := ""
	for _, r := range runes {
		names += fmt.Sprintf("%06x ", r)
	}
	return append(words, names)
}

func anyOrderTable(d *dice) string {
	name := func() string {
		return d.of("61", "62", "63", "2d", "61", "10ffff", "fffd", "301", "300", "323", "324", "31b")
	}
	mark := func() string { return d.of("301", "300", "323", "324", "31b", name()) }
	element := func() string {
		return d.of("10.20.2", "11.20.2", "10.21.2", "10.20.3", "10.20.3", "0.20.2", "0.20.3", "0.0.2", "0.0.3", "0.0.0", "*3.20.2", "*4.20.2", "*3.21.3")
	}
	lines := []string{"d e1 61 301", "d 1ea1 61 323", "d 1eb7 1ea1 301", "d 344 300 301", "c 31b d8", "c 323 dc", "c 324 dc", "c 301 e6", "c 300 e6"}
	lines = slices.DeleteFunc(lines, func(string) bool { return d.below(12) == 0 })
	seen := map[string]bool{}
	add := func(sequence string) {
		if seen[sequence] {
			return
		}
		seen[sequence] = true
		lines = append(lines, "w "+sequence+" = "+element()+d.of("", "", " "+element(), " "+element()+" "+element()))
	}
	for range 20 {
		add(name())
	}
	for range 3 + d.below(8) {
		add(name() + " " + mark())
	}
	for pair := range strings.Lines(strings.Join(lines, "\n") + "\n") {
		words := strings.Fields(pair)
		if len(words) > 3 && words[3] == "=" && d.below(3) > 0 {
			add(words[1] + " " + words[2] + " " + mark())
		}
	}
	return strings.Join(lines, "\n")
}

func anyOrderText(d *dice) string {
	var s strings.Builder
	for range d.below(1 + d.below(9)) {
		s.WriteString(d.of("a", "b", "c", "-", "z", "\xff", "\U0010ffff", "á", "\u1ea1", "\u1eb7", "\u0344"))
		for range d.below(5) {
			s.WriteString(d.of("\u0301", "\u0300", "\u0323", "\u0324", "\u031b"))
		}
	}
	if s.Len() > api.MaxText {
		return s.String()[:api.MaxText]
	}
	return s.String()
}

// anyNeighbour is a text that is much the same: so the later levels, the runes
// and texts that are equal are met, too.
func anyNeighbour(d *dice, s string) string {
	runes := []rune(s)
	if len(runes) < 2 {
		return anyOrderText(d)
	}
	i, k := d.below(len(runes)), d.below(len(runes))
	switch d.below(5) {
	case 0:
		runes[i], runes[k] = runes[k], runes[i]
	case 1:
		runes = slices.Delete(runes, i, i+1)
	case 2:
		runes[i] = []rune("abc-\u0301\u0300\u0323\u0324")[d.below(8)]
	case 3:
		runes = []rune(strings.ReplaceAll(s, "á", "a\u0301"))
	default:
		return anyOrderText(d)
	}
	next := string(runes)
	if len(next) > api.MaxText {
		return anyOrderText(d)
	}
	return next
}

func TestAnyOrder(t *testing.T) {
	d := dice(5)
	var all plainOrder
	equal, decided := 0, [5]int{}
	for i := range 2000 {
		o := api.Options{Strength: 1 + i%4, Shifted: i/4%2 == 1}
		table := anyOrderTable(&d)
		p, c := plainTable(table), mustNewWith(t, table, o)
		promise := fmt.Sprintf("any texts, table %q", table)
		a := anyOrderText(&d)
		first := p.standing(&d, a, o)
		checkElements(t, promise, c, []weighed{{a, wordsOf(p.elements(p.normal(&d, a)))}})
		for range 6 {
			b := anyNeighbour(&d, a)
			second := p.standing(&d, b, o)
			checkOrder(t, promise, c, a, b, slices.Compare(first, second))
			if t.Failed() {
				return
			}
			switch n := firstOther(first, second); n {
			case o.Strength + 1:
				equal++
			case o.Strength:
				decided[4]++
			default:
				decided[n]++
			}
			a, first = b, second
		}
		all.jumped, all.kept, all.twice = all.jumped+p.jumped, all.kept+p.kept, all.twice+p.twice
	}
	for _, met := range append(decided[:], all.jumped, all.kept, all.twice, equal) {
		if met < 30 {
			t.Errorf("the levels and the runes decided %d times, runes were taken out %d times and kept %d times, sequences grew twice %d times, texts were equal %d times", decided, all.jumped, all.kept, all.twice, equal)
			break
		}
	}
}

// firstOther is the place of the first words that are not the same.
func firstOther(a []string, b []string) int {
	for i := range a {
		if a[i] != b[i] {
			return i
		}
	}
	return len(a)
}
