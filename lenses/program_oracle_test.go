package lenses_test

import (
	"regexp"
	"strings"

	"lenses/api"
)

// A second way to the answers of Compile: parts are cut out of the program by the library's regexp and stand in it as one rune each; then brackets are, from the innermost on.

const (
	oraclePattern = `/((?:\\[ -~\n]|[^/\\])*)/`
	oracleWord    = `"([^"\n]*)"`
	oracleParts   = 0xE000 // the rune of the first part; no sign is as great
)

var (
	oracleCopied  = regexp.MustCompile(`^` + oraclePattern + `(\*?)`)
	oracleLeftOut = regexp.MustCompile(`^-` + oraclePattern + oracleWord)
	oraclePutIn   = regexp.MustCompile(`^\+` + oracleWord)
	oracleMark    = regexp.MustCompile(`^[()<>|~*]`)
	oracleInside  = regexp.MustCompile(`\([^()<>]*\)\*?|<[^()<>]*>`)
)

// oraclePart has the sources and views of a part in the library's way of writing. Its turns are grown only when they are asked for: they mean nothing where it is not well typed.
type oraclePart struct {
	s, v  string
	turns func() oracleTurns
}

type oracleReader struct {
	alphabet string
	texts    []string
	parts    []oraclePart
	depth    int
	size     int
	wrong    bool
	ill      bool
}

// oracleProgram reads a program all of whose signs, but for those that nothing tells apart, are in the alphabet. The turns of its parts are grown out of those of the texts that are their patterns'.
func oracleProgram(program, alphabet string, texts []string) (oraclePart, api.Errno) {
	if len(program) > 120 {
		return oraclePart{}, api.ErrLong
	}
	o := &oracleReader{alphabet: alphabet, texts: texts, wrong: !oracleSigns(program)}
	rest := ""
	for program != "" && !o.wrong {
		token, length := o.token(program)
		rest += token
		program = program[length:]
	}
	for !o.wrong && oracleInside.MatchString(rest) {
		rest = oracleInside.ReplaceAllStringFunc(rest, o.bracket)
	}
	whole := o.lens(rest)
	switch {
	case o.wrong:
		return oraclePart{}, api.ErrSyntax
	case o.size > 24:
		return oraclePart{}, api.ErrSize
	case o.ill:
		return oraclePart{}, api.ErrType
	}
	return whole, api.OK
}

// token answers what stands for the part or mark with which a program begins, and how long that is.
func (o *oracleReader) token(program string) (string, int) {
	if m := oracleCopied.FindStringSubmatch(program); m != nil {
		p := o.pattern(m[1])
		part := oraclePart{p, p, func() oracleTurns { return oracleCopyTurns(o.textsOf(p)) }}
		if m[2] == "" {
			return o.keep(part), len(m[0])
		}
		o.size++
		return o.keep(o.pieces(part, oracleRepeatTurns)), len(m[0])
	}
	if m := oracleLeftOut.FindStringSubmatch(program); m != nil {
		p := o.pattern(m[1])
		o.size += len(m[2])
		o.need(func() bool { return oracleWhole(p).MatchString(m[2]) })
		return o.keep(oraclePart{p, "", func() oracleTurns { return oracleLeaveOutTurns(o.textsOf(p), m[2]) }}), len(m[0])
	}
	if m := oraclePutIn.FindStringSubmatch(program); m != nil {
		o.size += len(m[1])
		return o.keep(oraclePart{"", regexp.QuoteMeta(m[1]), func() oracleTurns { return oraclePutInTurns(m[1]) }}), len(m[0])
	}
	mark := oracleMark.FindString(program)
	switch mark {
	case "":
		o.wrong = true
	case "<":
		o.size++
		o.depth++
	case "(":
		o.depth++
	case ")", ">":
		o.depth--
	case "*":
		o.size++
	}
	o.wrong = o.wrong || o.depth > 12
	return mark, len(mark)
}

func (o *oracleReader) pattern(text string) string {
	size, depth, ok := oracleMeasure(text)
	o.size += size
	if !ok || o.depth+depth > 12 {
		o.wrong = true
		return ""
	}
	return "(?:" + oracleInner(text) + ")"
}

// textsOf answers those of the texts that are a pattern's.
func (o *oracleReader) textsOf(p string) []string {
	var out []string
	whole := oracleWhole(p)
	for _, text := range o.texts {
		if whole.MatchString(text) {
			out = append(out, text)
		}
	}
	return out
}

func (o *oracleReader) keep(p oraclePart) string {
	o.parts = append(o.parts, p)
	return string(rune(oracleParts + len(o.parts) - 1))
}

// need asks about types no further than up to the first that is wrong.
func (o *oracleReader) need(holds func() bool) {
	if !o.wrong && !o.ill && o.size <= 24 && !holds() {
		o.ill = true
	}
}

func (o *oracleReader) bracket(text string) string {
	bracket, star := strings.CutSuffix(text, "*")
	inner := bracket[1 : len(bracket)-1]
	if bracket[0] == '<' {
		return o.keep(o.pieces(o.lens(inner), oracleKeysTurns))
	}
	first, second, change := strings.Cut(inner, "~")
	p := o.lens(first)
	if change {
		other := o.lens(second)
		first := p
		p = oraclePart{o.behind(first.s, other.s), o.behind(other.v, first.v), func() oracleTurns { return oracleChangeTurns(first.turns(), other.turns()) }}
	}
	if star {
		p = o.pieces(p, oracleRepeatTurns)
	}
	return o.keep(p)
}

func (o *oracleReader) lens(text string) oraclePart {
	first, rest, more := strings.Cut(text, "|")
	p := o.row([]rune(first))
	if !more {
		return p
	}
	other := o.lens(rest)
	o.need(func() bool { return oracleApart(oracleCompile(p.s), oracleCompile(other.s), o.alphabet) })
	turns := func() oracleTurns { return oracleUnionTurns(p.turns(), other.turns(), p.v, other.v) }
	return oraclePart{"(?:" + p.s + "|" + other.s + ")", "(?:" + p.v + "|" + other.v + ")", turns}
}

func (o *oracleReader) row(parts []rune) oraclePart {
	if len(parts) == 0 || parts[0] < oracleParts {
		o.wrong = true
		return oraclePart{}
	}
	p := o.parts[parts[0]-oracleParts]
	if len(parts) == 1 {
		return p
	}
	rest := o.row(parts[1:])
	return oraclePart{o.behind(p.s, rest.s), o.behind(p.v, rest.v), func() oracleTurns { return oracleRowTurns(p.turns(), rest.turns()) }}
}

func (o *oracleReader) behind(a, b string) string {
	o.need(func() bool { return oracleOnce(oracleCompile(a), oracleCompile(b), o.alphabet) })
	return a + b
}

func (o *oracleReader) pieces(p oraclePart, turns func(oracleTurns) oracleTurns) oraclePart {
	for _, one := range []string{p.s, p.v} {
		o.need(func() bool {
			return !oracleWhole(one).MatchString("") && oraclePieces(oracleCompile(one), o.alphabet)
		})
	}
	return oraclePart{"(?:" + p.s + ")*", "(?:" + p.v + ")*", func() oracleTurns { return turns(p.turns()) }}
}
