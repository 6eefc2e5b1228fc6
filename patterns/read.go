package patterns

import (
	"errors"
	"strings"

	"lenses/api"
)

// What can go wrong in reading a pattern, in the order in which it is told.
var (
	ErrLong   = errors.New("the pattern is too long")
	ErrSyntax = errors.New("it is no pattern")
	ErrSize   = errors.New("there is too much in the pattern")
)

// special has the signs that stand for themselves only behind a backslash. (The dot is not among them: it is a thing without one, too.)
const special = "()[]*+?|/\"\\"

// Read answers the pattern that a text tells, or one of the errors above.
func Read(text string) (Pattern, error) {
	if len(text) > api.MaxProgram {
		return nil, ErrLong
	}
	p, err := readWhole(text)
	if err != nil {
		return nil, err
	}
	if p.Size() > api.MaxSize {
		return nil, ErrSize
	}
	return p, nil
}

// readWhole is where the panic ends by which the reader leaves its recursion.
func readWhole(text string) (p Pattern, err error) {
	defer func() {
		if fault, ok := recover().(error); ok {
			p, err = nil, fault
		}
	}()
	r := &reader{text: text}
	p = r.choice()
	if !r.done() {
		r.fail()
	}
	return p, nil
}

type reader struct {
	text  string
	at    int
	depth int
}

func (r *reader) fail() {
	panic(ErrSyntax)
}

func (r *reader) done() bool {
	return r.at >= len(r.text)
}

func (r *reader) sees(b byte) bool {
	return !r.done() && r.text[r.at] == b
}

func (r *reader) next() byte {
	if r.done() {
		r.fail()
	}
	r.at++
	return r.text[r.at-1]
}

// skip passes over the byte b, if it stands here.
func (r *reader) skip(b byte) bool {
	if !r.sees(b) {
		return false
	}
	r.at++
	return true
}

func (r *reader) choice() Pattern {
	sides := []Pattern{r.row()}
	for r.skip('|') {
		sides = append(sides, r.row())
	}
	return choice{sides}
}

func (r *reader) row() Pattern {
	var parts []Pattern
	for !r.done() && !r.sees('|') && !r.sees(')') {
		parts = append(parts, r.repeat(r.thing()))
	}
	return row{parts}
}

// repeat takes one mark at most: a second one is then read as a thing, which it is not.
func (r *reader) repeat(p Pattern) Pattern {
	switch {
	case r.skip('*'):
		return repeat{part: p, missing: true, again: true}
	case r.skip('+'):
		return repeat{part: p, again: true}
	case r.skip('?'):
		return repeat{part: p, missing: true}
	}
	return p
}

func (r *reader) thing() Pattern {
	b := r.next()
	switch {
	case b == '(':
		return r.inner()
	case b == '[':
		return r.class()
	case b == '.':
		return place{Signs{}.with('a', 'z')}
	case b == '\\':
		return r.sign(r.next())
	case strings.IndexByte(special, b) >= 0:
		r.fail()
	}
	return r.sign(b)
}

func (r *reader) sign(b byte) Pattern {
	if !isSign(b) {
		r.fail()
	}
	return place{Signs{}.with(b, b)}
}

// inner reads what stands behind an opening bracket, and the closing one.
func (r *reader) inner() Pattern {
	r.depth++
	if r.depth > api.MaxDepth {
		r.fail()
	}
	p := r.choice()
	if !r.skip(')') {
		r.fail()
	}
	r.depth--
	return p
}

// class asks for a range ahead of each look for the closing bracket: a class of none is no class.
func (r *reader) class() Pattern {
	signs := r.classRange(Signs{})
	for !r.skip(']') {
		signs = r.classRange(signs)
	}
	return place{signs}
}

func (r *reader) classRange(signs Signs) Signs {
	first := r.letterOrDigit()
	last := first
	if r.skip('-') {
		last = r.letterOrDigit()
	}
	if first > last {
		r.fail()
	}
	return signs.with(first, last)
}

func (r *reader) letterOrDigit() byte {
	b := r.next()
	if !isLetterOrDigit(b) {
		r.fail()
	}
	return b
}
