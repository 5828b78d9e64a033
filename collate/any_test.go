package collate

import (
	"regexp"
	"strconv"
	"strings"
	"testing"

	"tome/api"
)

// dice is the same row of numbers at every run.
type dice uint64

func (d *dice) below(n int) int {
	*d = *d*6364136223846793005 + 1442695040888963407
	return int(uint64(*d)>>33) % n
}

func (d *dice) of(l ...string) string { return l[d.below(len(l))] }

var (
	formC = form(`c (RUNE) (NUM)`)
	formD = form(`d (RUNE)((?: RUNE){1,2})`)
	formW = form(`w (RUNE(?: RUNE){0,2}) =((?: \*?NUM\.NUM\.NUM){1,4})`)
)

func form(line string) *regexp.Regexp {
	line = strings.ReplaceAll(line, "RUNE", "(?:0|[1-9a-f][0-9a-f]{0,4}|10[0-9a-f]{4})")
	line = strings.ReplaceAll(line, "NUM", "(?:0|[1-9a-f][0-9a-f]{0,3})")
	return regexp.MustCompile(`\A` + line + `\z`)
}

// plain is what the document says of a table, told another way: lines are
// held against patterns, and runes stay the words they are.
type plain struct {
	lines     []string
	seen      map[string]bool
	parts     map[string][]string
	sequences map[string]bool
}

func plainNew(table string) (int, api.Errno) {
	p := plain{
		lines:     strings.Split(table, "\n"),
		seen:      map[string]bool{},
		parts:     map[string][]string{},
		sequences: map[string]bool{},
	}
	for i, line := range p.lines {
		if e := p.look(line); e != api.OK {
			return i + 1, e
		}
	}
	for _, check := range []func(line string) api.Errno{p.loop, p.prefix, p.variable} {
		for i, line := range p.lines {
			if e := check(line); e != api.OK {
				return i + 1, e
			}
		}
	}
	return 0, api.OK
}

func (p *plain) look(line string) api.Errno {
	if line == "" || strings.HasPrefix(line, "#") {
		return api.OK
	}
	name := ""
	if m := formC.FindStringSubmatch(line); m != nil {
		class := hex(m[2])
		if class < 1 || class > 254 {
			return api.ErrLine
		}
		name = "c " + m[1]
	} else if m := formD.FindStringSubmatch(line); m != nil {
		name = "d " + m[1]
		if !p.seen[name] {
			p.parts[m[1]] = strings.Fields(m[2])
		}
	} else if m := formW.FindStringSubmatch(line); m != nil {
		name = "w " + m[1]
		p.sequences[m[1]] = true
	} else {
		return api.ErrLine
	}
	if p.seen[name] {
		return api.ErrTwice
	}
	p.seen[name] = true
	for _, e := range elementsOf(line) {
		if e.Primary > 0 && e.Secondary == 0 || e.Secondary > 0 && e.Tertiary == 0 || e.Variable && e.Primary == 0 || e.Primary >= 0xfb00 {
			return api.ErrWeight
		}
	}
	return api.OK
}

func (p *plain) loop(line string) api.Errno {
	m := formD.FindStringSubmatch(line)
	if m == nil {
		return api.OK
	}
	level := map[string]bool{m[1]: true}
	for range 4 {
		below := map[string]bool{}
		for name := range level {
			for _, part := range p.parts[name] {
				below[part] = true
			}
		}
		level = below
	}
	for name := range level {
		if p.parts[name] != nil {
			return api.ErrLoop
		}
	}
	return api.OK
}

func (p *plain) prefix(line string) api.Errno {
	m := formW.FindStringSubmatch(line)
	if m == nil {
		return api.OK
	}
	names := strings.Fields(m[1])
	for _, name := range names {
		if p.parts[name] != nil {
			return api.ErrPrefix
		}
	}
	if len(names) == 3 && !p.sequences[names[0]+" "+names[1]] {
		return api.ErrPrefix
	}
	return api.OK
}

func (p *plain) variable(line string) api.Errno {
	for _, v := range elementsOf(line) {
		for _, other := range p.lines {
			for _, e := range elementsOf(other) {
				if v.Variable && !e.Variable && e.Primary != 0 && v.Primary >= e.Primary {
					return api.ErrWeight
				}
			}
		}
	}
	return api.OK
}

func elementsOf(line string) []api.Element {
	m := formW.FindStringSubmatch(line)
	if m == nil {
		return nil
	}
	var l []api.Element
	for _, word := range strings.Fields(m[2]) {
		n := strings.Split(strings.TrimPrefix(word, "*"), ".")
		l = append(l, api.Element{Primary: hex(n[0]), Secondary: hex(n[1]), Tertiary: hex(n[2]), Variable: word[0] == '*'})
	}
	return l
}

func hex(word string) int {
	n, err := strconv.ParseInt(word, 16, 32)
	if err != nil {
		panic(err)
	}
	return int(n)
}

// anyLine is a line that is mostly right, of few runes, so that lines meet.
func anyLine(d *dice) string {
	name := func() string { return d.of("1", "2", "3", "4", "5", "6", "7", "8", "9", "a", "b", "10ffff") }
	element := func() string {
		return d.of("5.1.1", "6.1.1", "0.1.1", "0.0.1", "0.0.0", "faff.2.2", "8.1.1", "9.1.1", "*1.1.1", "*2.1.1", "*4.1.1", d.of("*6.1.1", "*3.1.1", "fb00.1.1", "1.0.1", "0.1.0", "*0.0.0"))
	}
	switch d.below(7) {
	case 0:
		return "c " + name() + " " + d.of("1", "2", "fe", "e6", "dc", d.of("1", "0", "ff"))
	case 1:
		return "d " + name() + " " + name()
	case 2:
		return "d " + name() + " " + name() + " " + name()
	case 3:
		return d.of("", "#", "# c 1 1")
	case 4:
		return "w " + name() + " = " + element()
	case 5:
		return "w " + name() + " " + name() + " = " + element() + " " + element()
	default:
		return "w " + name() + " " + name() + " " + name() + " = " + element()
	}
}

func anyTable(d *dice) string {
	var lines []string
	for range d.below(9) {
		lines = append(lines, anyLine(d))
	}
	table := []byte(strings.Join(lines, "\n"))
	if d.below(2) == 0 {
		table = append(table, '\n')
	}
	const other = " \n#cdw0123456789abf=.*x\x00\xff"
	for d.below(4) == 0 && len(table) > 0 {
		table[d.below(len(table))] = other[d.below(len(other))]
	}
	return string(table)
}

func TestAnyTable(t *testing.T) {
	d := dice(1)
	met := map[api.Errno]int{}
	for range 60000 {
		table := anyTable(&d)
		line, e := plainNew(table)
		checkNew(t, "P3 to P5", []answer{{table, line, e}})
		met[e]++
		if t.Failed() {
			return
		}
	}
	for _, e := range []api.Errno{api.OK, api.ErrLine, api.ErrTwice, api.ErrLoop, api.ErrWeight, api.ErrPrefix} {
		if met[e] < 100 {
			t.Errorf("the tables met error %d only %d times", e, met[e])
		}
	}
}

func TestAnyBytes(t *testing.T) {
	d := dice(2)
	for range 20000 {
		table := make([]byte, d.below(40))
		for i := range table {
			table[i] = byte(d.below(256))
		}
		line, e := plainNew(string(table))
		checkNew(t, "P1, P3", []answer{{string(table), line, e}})
	}
}

// fullTable has as many lines as there is room for; # stands for the number
// of the line, and / for its half.
func fullTable(line string) string {
	var table strings.Builder
	for i := 0; ; i++ {
		number := strconv.FormatInt(int64(i), 16)
		half := strconv.FormatInt(int64(i/2), 16)
		next := strings.NewReplacer("#", number, "/", half).Replace(line) + "\n"
		if table.Len()+len(next) > api.MaxTable {
			return table.String()
		}
		table.WriteString(next)
	}
}

func TestGreatTables(t *testing.T) {
	checkNew(t, "P1", []answer{
		{fullTable("c # 1"), 0, api.OK},
		{fullTable("d # 10ffff"), 0, api.OK},
		{fullTable("d # / /"), 1, api.ErrLoop},
		{fullTable("d 8000 #"), 2, api.ErrTwice},
		{fullTable("w # = 0.0.0"), 0, api.OK},
		{fullTable("w 0 # = *1.1.1"), 0, api.OK},
		{fullTable("w 0 0 # = 1.1.1"), 1, api.ErrPrefix},
		{strings.Repeat(" ", api.MaxTable), 1, api.ErrLine},
		{"w " + strings.Repeat("1 ", 4000) + "=", 1, api.ErrLine},
		{"w 1 =" + strings.Repeat(" 0.0.0", 1300), 1, api.ErrLine},
		{"w 1 = " + strings.Repeat("*", 8000), 1, api.ErrLine},
		{"w 1 = " + strings.Repeat(".", 8000), 1, api.ErrLine},
		{"c " + strings.Repeat("1", 8000) + " 1", 1, api.ErrLine},
	})
}
