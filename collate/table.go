package collate

import (
	"slices"
	"strings"

	"tome/api"
)

// draft is a table that is half read. What only the reading needs stands
// here, so that a collator does not keep it.
type draft struct {
	nodes   nodes
	line    int // the one that is looked at
	parted  []partedLine
	weighed []weighedLine
}

// partedLine is a line d.
type partedLine struct {
	line int
	top  int
}

// weighedLine is a line w.
type weighedLine struct {
	line int
	sequence
}

// build catches what refuse told: the line is the one that was looked at
// then.
func build(table string, o api.Options) (c *Collator, line int, e api.Errno) {
	c = &Collator{nodes: nodes{}, options: o}
	d := draft{nodes: c.nodes}
	defer func() {
		told := recover()
		if told == nil {
			return
		}
		c, line, e = nil, d.line, api.ErrLine
		if errno, ok := told.(api.Errno); ok {
			e = errno
		}
	}()
	d.readLines(table)
	d.checkParts()
	d.checkPrefixes()
	d.checkVariables()
	return c, 0, api.OK
}

func (d *draft) readLines(table string) {
	for rest := table; rest != ""; {
		var text string
		text, rest, _ = strings.Cut(rest, "\n")
		d.line++
		d.readLine(text)
	}
}

func (d *draft) readLine(text string) {
	if text == "" || text[0] == '#' {
		return
	}
	words := strings.Split(text, " ")
	switch words[0] {
	case "c":
		d.readRank(words[1:])
	case "d":
		d.readMakeup(words[1:])
	case "w":
		d.readWeighing(words[1:])
	default:
		panic(api.ErrLine)
	}
}

func (d *draft) readRank(words []string) {
	refuse(len(words) != 2, api.ErrLine)
	name, class := readRune(words[0]), readClass(words[1])
	n := d.nodes[name]
	refuse(n.isMark(), api.ErrTwice)
	n.class = class
	d.nodes[name] = n
}

func (d *draft) readMakeup(words []string) {
	refuse(len(words) != 2 && len(words) != 3, api.ErrLine)
	runes := readRunes(words)
	top := runes[0]
	n := d.nodes[top]
	refuse(n.hasParts(), api.ErrTwice)
	n.parts = runes[1:]
	d.nodes[top] = n
	d.parted = append(d.parted, partedLine{d.line, top})
}

func (d *draft) readWeighing(words []string) {
	s := readSequence(words)
	first := s.runes[0]
	n := d.nodes[first]
	refuse(n.has(s.runes), api.ErrTwice)
	refuse(slices.ContainsFunc(s.elements, cannotBe), api.ErrWeight)
	n.sequences = append(n.sequences, s)
	d.nodes[first] = n
	d.weighed = append(d.weighed, weighedLine{d.line, s})
}

func readSequence(words []string) sequence {
	sign := slices.Index(words, "=")
	refuse(sign < 1 || sign > api.MaxSequence, api.ErrLine)
	behind := words[sign+1:]
	refuse(len(behind) < 1 || len(behind) > api.MaxElements, api.ErrLine)
	return sequence{runes: readRunes(words[:sign]), elements: readElements(behind)}
}

func cannotBe(e api.Element) bool {
	return e.Primary != 0 && e.Secondary == 0 ||
		e.Secondary != 0 && e.Tertiary == 0 ||
		e.Variable && e.Primary == 0 ||
		e.Primary >= api.Implicit
}
