package reading

import (
	"errors"
	"strings"
	"testing"
)

// letters is what these tests read: it is as great as it has letters.
type letters string

func (l letters) Size() int { return len(l) }

func readLetters(c *Cursor) letters {
	out := letters("")
	for !c.Done() && !c.Sees(')', '!') {
		if !c.Skip('(') {
			out += letters(c.Next())
			continue
		}
		c.Open()
		out += readLetters(c)
		c.Close(')')
	}
	return out
}

func TestWhole(t *testing.T) {
	deep := strings.Repeat("(", 12) + "a" + strings.Repeat(")", 12)
	for _, c := range []struct {
		text string
		out  letters
		want error
	}{
		{"", "", nil}, {"a(bc)d", "abcd", nil}, {deep + deep, "aa", nil},
		{"a(b", "", ErrSyntax}, {"ab)", "", ErrSyntax}, {"a!", "", ErrSyntax}, {"(a!)", "", ErrSyntax}, {"(" + deep + ")", "", ErrSyntax},
		{strings.Repeat("a", 24), letters(strings.Repeat("a", 24)), nil}, {strings.Repeat("a", 25), "", ErrSize}, {strings.Repeat("a", 25) + "(", "", ErrSyntax},
		{strings.Repeat("()", 60), "", nil}, {strings.Repeat("()", 60) + "a", "", ErrLong}, {strings.Repeat("(", 121), "", ErrLong},
	} {
		out, err := Whole(c.text, readLetters)
		if out != c.out || !errors.Is(err, c.want) {
			t.Errorf("Whole(%q) = %q, %v, want %q, %v", c.text, out, err, c.out, c.want)
		}
	}
}

func TestNextBehindTheEndFails(t *testing.T) {
	c := &Cursor{text: "a"}
	if b := c.Next(); b != 'a' || !c.Done() || c.Sees('a') || c.Skip('a') {
		t.Errorf("read %q, then not at the end", b)
	}
	for range 2 {
		if err := Caught(func() { c.Next() }); !errors.Is(err, ErrSyntax) {
			t.Errorf("behind the end: %v", err)
		}
		if err := Caught(func() { c.Expect('a') }); !errors.Is(err, ErrSyntax) {
			t.Errorf("behind the end: %v", err)
		}
	}
}

func TestCaught(t *testing.T) {
	fault := errors.New("a fault")
	if err := Caught(func() { panic(fault) }); err != fault {
		t.Errorf("caught %v", err)
	}
	if err := Caught(func() {}); err != nil {
		t.Errorf("caught %v out of nothing", err)
	}
}
