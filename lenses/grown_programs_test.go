package lenses_test

import (
	"strings"
	"testing"

	"lenses/api"
	"lenses/lenses"
)

// programSigns has every sign of the programs that are held against the second way.
const programSigns = "abcd,;" + spoilingMarks

// spoilingMarks are put into programs that are right otherwise.
const spoilingMarks = "/\"()<>|~*+-.\\[]?\n"

// checkProgramAgainstOracle asks Compile, what the Lens says of the texts, and what it makes of them and of longer ones that are grown out of them. It answers the error.
func checkProgramAgainstOracle(t *testing.T, program string, texts []string) api.Errno {
	t.Helper()
	part, want := oracleProgram(program, programSigns, texts)
	l, err := lenses.Compile(program)
	if err != want || (l == nil) != (err != api.OK) {
		t.Errorf("Compile(%q) = %v, %d, want %d", program, l, err, want)
		return want
	}
	if l == nil {
		return want
	}
	sources, views := oracleWhole(part.s), oracleWhole(part.v)
	for _, text := range texts {
		source, view := sources.MatchString(text), views.MatchString(text)
		checkKind(t, program, l, text, source, view)
		checkTurned(t, program, l, text, source, view)
	}
	turns := part.turns()
	for _, turn := range turns.get {
		checkGet(t, program, l, turn.from, turn.to)
	}
	for _, turn := range turns.create {
		checkCreate(t, program, l, turn.from, turn.to)
	}
	for _, put := range turns.puts {
		checkPut(t, program, l, put.view, put.source, put.result)
	}
	checkLaws(t, program, l, turns)
	return want
}

// checkLaws asks P13 of sources and views in whatever pairs.
func checkLaws(t *testing.T, program string, l *lenses.Lens, turns oracleTurns) {
	t.Helper()
	for i, source := range oracleThin(turns.get) {
		checkWrittenBack(t, program, l, source.from)
		for j, view := range oracleThin(turns.create) {
			if (i+j)%5 == 0 {
				checkWritten(t, program, l, view.from, source.from)
			}
		}
	}
}

// checkCounts asks that there was enough of each of these kinds, or the run told little.
func checkCounts(t *testing.T, count map[api.Errno]int, kinds ...api.Errno) {
	t.Helper()
	for _, kind := range kinds {
		if count[kind] < 1000 {
			t.Errorf("too few programs of the kind %d: %v", kind, count)
		}
	}
}

func TestP5ToP13AllShortRowsOfTokens(t *testing.T) {
	tokens := []string{"/a/", "/b*/", `-/a|b/"b"`, `+"a"`, "(", ")", "<", ">", "~", "|", "*"}
	texts := allWords("ab", 3)
	count := map[api.Errno]int{}
	for length := range 6 {
		word := make([]int, length)
		for more := true; more; more = countUp(word, len(tokens)) {
			program := ""
			for _, n := range word {
				program += tokens[n]
			}
			count[checkProgramAgainstOracle(t, program, texts)]++
		}
	}
	checkCounts(t, count, api.OK, api.ErrType)
}

func (d *dice) pick(from ...string) string {
	return from[d.below(len(from))]
}

// program has parts that fit together often enough, and often not.
func (d *dice) program(depth int) string {
	out := d.part(depth)
	for range d.below(3) {
		out += d.part(depth)
	}
	if d.below(4) == 0 {
		out += "|" + d.program(depth)
	}
	return out
}

func (d *dice) part(depth int) string {
	n := d.below(14)
	if depth == 0 {
		n = d.below(8)
	}
	switch {
	case n < 5:
		return "/" + d.pick("a", "b", "c", "a*", "b+", ".", "[a-b]+", "a|bc", "", "c?", "ab", ",", ";", "(a|b)*c") + "/" + d.pick("", "", "", "*")
	case n < 7:
		return d.pick(`-/,/","`, `-/;/";"`, `-/a*/"aa"`, `-/b|c/"c"`, `-/.;/"b;"`, `-/,?/""`, `-/c/"a"`)
	case n == 7:
		return d.pick(`+"a"`, `+","`, `+"b;"`, `+""`)
	case n < 10:
		return "(" + d.program(depth-1) + ")" + d.pick("", "*")
	case n < 12:
		return "<" + d.program(depth-1) + ">"
	}
	return "(" + d.program(depth-1) + "~" + d.program(depth-1) + ")" + d.pick("", "", "*")
}

func TestP5ToP13GrownPrograms(t *testing.T) {
	d := dice(4)
	texts := allWords("abc,;", 3)
	count := map[api.Errno]int{}
	for range 6000 {
		count[checkProgramAgainstOracle(t, d.program(2), texts)]++
	}
	checkCounts(t, count, api.OK, api.ErrType)
}

// spoil puts a mark, or a byte that is no sign, somewhere into a program, in place of another byte or not, or takes one out.
func (d *dice) spoil(program string) string {
	at := d.below(len(program))
	mark := d.pick(strings.Split(spoilingMarks+"\x00", "")...)
	switch d.below(3) {
	case 0:
		return program[:at] + mark + program[at:]
	case 1:
		return program[:at] + mark + program[at+1:]
	}
	return program[:at] + program[at+1:]
}

func TestP5ToP13SpoiledPrograms(t *testing.T) {
	d := dice(5)
	texts := allWords("abc,;", 2)
	count := map[api.Errno]int{}
	for range 6000 {
		count[checkProgramAgainstOracle(t, d.spoil(d.program(2)), texts)]++
	}
	checkCounts(t, count, api.ErrSyntax)
}
