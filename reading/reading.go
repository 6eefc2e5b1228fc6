// Package reading goes through the text of a pattern or of a program, sign by sign.
package reading

import (
	"errors"

	"lenses/api"
)

// What can go wrong in reading, in the order in which it is told.
var (
	ErrLong   = errors.New("the text is too long")
	ErrSyntax = errors.New("it is no pattern, or no program")
	ErrSize   = errors.New("there is too much in it")
)

// Sized is what can be read: its size is bounded.
type Sized interface {
	Size() int
}

// Whole answers what read makes of a text that it must use up, or one of the errors above.
func Whole[T Sized](text string, read func(c *Cursor) T) (T, error) {
	var none T
	if len(text) > api.MaxProgram {
		return none, ErrLong
	}
	whole := none
	err := Caught(func() {
		c := &Cursor{text: text}
		whole = read(c)
		if !c.Done() {
			c.Fail()
		}
	})
	if err != nil {
		return none, err
	}
	if whole.Size() > api.MaxSize {
		return none, ErrSize
	}
	return whole, nil
}

// Caught answers the error by whose panic do left its recursion, if it did.
func Caught(do func()) (err error) {
	defer func() {
		if fault, ok := recover().(error); ok {
			err = fault
		}
	}()
	do()
	return nil
}

// Cursor stands in a text, within some brackets.
type Cursor struct {
	text  string
	at    int
	depth int
}

// Fail leaves the reading: the text is not what was looked for.
func (c *Cursor) Fail() {
	panic(ErrSyntax)
}

// Done tells whether the text is used up.
func (c *Cursor) Done() bool {
	return c.at >= len(c.text)
}

// Sees tells whether one of these bytes stands here.
func (c *Cursor) Sees(signs ...byte) bool {
	for _, b := range signs {
		if !c.Done() && c.text[c.at] == b {
			return true
		}
	}
	return false
}

// Next answers the byte that stands here, and passes over it.
func (c *Cursor) Next() byte {
	if c.Done() {
		c.Fail()
	}
	c.at++
	return c.text[c.at-1]
}

// Skip passes over the byte b, if it stands here.
func (c *Cursor) Skip(b byte) bool {
	if !c.Sees(b) {
		return false
	}
	c.at++
	return true
}

// Expect passes over the byte b, which must stand here.
func (c *Cursor) Expect(b byte) {
	if !c.Skip(b) {
		c.Fail()
	}
}

// Open counts a bracket that was passed: what follows stands one deeper, until it is closed.
func (c *Cursor) Open() {
	c.depth++
	if c.depth > api.MaxDepth {
		c.Fail()
	}
}

// Close passes over the closing bracket, which must stand here.
func (c *Cursor) Close(bracket byte) {
	c.Expect(bracket)
	c.depth--
}
