package patterns

import (
	"strings"

	"lenses/reading"
)

// special has the signs that stand for themselves only behind a backslash. (The dot is not among them: it is a thing without one, too.)
const special = "()[]*+?|/\"\\"

// Read answers the pattern that a text tells, or one of the errors of package reading.
func Read(text string) (Pattern, error) {
	return reading.Whole(text, ReadAt)
}

// ReadAt reads a pattern out of a longer text, up to what can't belong to it. It leaves by a panic where there is none; its brackets count on top of those that are open.
func ReadAt(c *reading.Cursor) Pattern {
	return reader{c}.choice()
}

type reader struct {
	*reading.Cursor
}

func (r reader) choice() Pattern {
	sides := []Pattern{r.row()}
	for r.Skip('|') {
		sides = append(sides, r.row())
	}
	return choice{sides}
}

func (r reader) row() Pattern {
	var parts []Pattern
	for !r.Done() && !r.Sees('|', ')', '/') {
		parts = append(parts, r.repeat(r.thing()))
	}
	return row{parts}
}

// repeat takes one mark at most: a second one is then read as a thing, which it is not.
func (r reader) repeat(p Pattern) Pattern {
	switch {
	case r.Skip('*'):
		return Many(p)
	case r.Skip('+'):
		return repeat{part: p, again: true}
	case r.Skip('?'):
		return repeat{part: p, missing: true}
	}
	return p
}

func (r reader) thing() Pattern {
	b := r.Next()
	switch {
	case b == '(':
		return r.inner()
	case b == '[':
		return r.class()
	case b == '.':
		return place{Signs{}.with('a', 'z')}
	case b == '\\':
		return r.sign(r.Next())
	case strings.IndexByte(special, b) >= 0:
		r.Fail()
	}
	return r.sign(b)
}

func (r reader) sign(b byte) Pattern {
	if !IsSign(b) {
		r.Fail()
	}
	return onlySign(b)
}

// inner reads what stands behind an opening bracket, and the closing one.
func (r reader) inner() Pattern {
	r.Open()
	p := r.choice()
	r.Close(')')
	return p
}

// class asks for a range ahead of each look for the closing bracket: a class of none is no class.
func (r reader) class() Pattern {
	signs := r.classRange(Signs{})
	for !r.Skip(']') {
		signs = r.classRange(signs)
	}
	return place{signs}
}

func (r reader) classRange(signs Signs) Signs {
	first := r.letterOrDigit()
	last := first
	if r.Skip('-') {
		last = r.letterOrDigit()
	}
	if first > last {
		r.Fail()
	}
	return signs.with(first, last)
}

func (r reader) letterOrDigit() byte {
	b := r.Next()
	if !isLetterOrDigit(b) {
		r.Fail()
	}
	return b
}
