package programs

import (
	"lenses/patterns"
	"lenses/reading"
)

// Read answers the part that a whole program is, or an error: one of those of package reading, or ErrType behind them.
func Read(text string) (*Part, error) {
	whole, err := reading.Whole(text, readAt)
	if err != nil {
		return nil, err
	}
	var part *Part
	err = reading.Caught(func() { part = whole.build() })
	return part, err
}

func readAt(c *reading.Cursor) plan {
	return reader{c}.lens()
}

// plan is a part that is not built yet: types are asked only when the whole text is known to be a program, and not to be too great for nets.
type plan struct {
	size  int
	build func() *Part
}

func (p plan) Size() int { return p.size }

func joined(first, second plan, join func(first, second *Part) *Part) plan {
	return plan{first.size + second.size, func() *Part { return join(first.build(), second.build()) }}
}

func again(piece plan, repeat func(piece *Part) *Part) plan {
	return plan{piece.size + 1, func() *Part { return repeat(piece.build()) }}
}

type reader struct {
	*reading.Cursor
}

func (r reader) lens() plan {
	first := r.row()
	if !r.Skip('|') {
		return first
	}
	return joined(first, r.lens(), united)
}

func (r reader) row() plan {
	first := r.part()
	if r.Done() || r.Sees('|', '~', ')', '>') {
		return first
	}
	return joined(first, r.row(), inRow)
}

// part lets a `*` stand behind a copy and a round bracket alone: behind others it is read as a part, which it is not.
func (r reader) part() plan {
	switch r.Next() {
	case '/':
		return r.starred(r.copied())
	case '(':
		return r.starred(r.round())
	case '<':
		return again(r.pointed(), byKeys)
	case '-':
		return r.leftOut()
	case '+':
		return r.putIn()
	}
	r.Fail()
	return plan{}
}

func (r reader) starred(p plan) plan {
	if r.Skip('*') {
		return again(p, repeated)
	}
	return p
}

func (r reader) copied() plan {
	p := r.pattern()
	return plan{p.Size(), func() *Part { return copied(p) }}
}

func (r reader) leftOut() plan {
	r.Expect('/')
	p, word := r.pattern(), r.word()
	return plan{p.Size() + len(word), func() *Part { return leftOut(p, word) }}
}

func (r reader) putIn() plan {
	word := r.word()
	return plan{len(word), func() *Part { return putIn(word) }}
}

func (r reader) round() plan {
	r.Open()
	inner := r.lens()
	if r.Skip('~') {
		inner = joined(inner, r.lens(), changingPlaces)
	}
	r.Close(')')
	return inner
}

func (r reader) pointed() plan {
	r.Open()
	inner := r.lens()
	r.Close('>')
	return inner
}

// pattern reads what stands behind the first `/`, and the second.
func (r reader) pattern() patterns.Pattern {
	p := patterns.ReadAt(r.Cursor)
	r.Expect('/')
	return p
}

func (r reader) word() string {
	r.Expect('"')
	var word []byte
	for !r.Skip('"') {
		word = append(word, r.wordSign())
	}
	return string(word)
}

func (r reader) wordSign() byte {
	b := r.Next()
	if b == '\n' || !patterns.IsSign(b) {
		r.Fail()
	}
	return b
}
