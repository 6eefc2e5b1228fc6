package patterns

import (
	"errors"
	"strings"
	"testing"

	"lenses/reading"
)

func TestReadTellsWhatIsWrong(t *testing.T) {
	for _, c := range []struct {
		text string
		want error
	}{
		{"a|(b*)", nil},
		{"a|(b*", reading.ErrSyntax},
		{strings.Repeat("a", 25), reading.ErrSize},
		{strings.Repeat("a", 25) + ")", reading.ErrSyntax},
		{strings.Repeat("|", 121), reading.ErrLong},
	} {
		p, err := Read(c.text)
		if !errors.Is(err, c.want) || (p == nil) != (err != nil) {
			t.Errorf("Read(%q) = %v, %v, want %v", c.text, p, err, c.want)
		}
	}
}

func TestSize(t *testing.T) {
	for text, want := range map[string]int{
		"": 0, "()|": 0, "a": 1, `\\`: 1, "[a-z0-9]": 1, ".": 1, "(a*|b.)+[xy]?": 4,
	} {
		p, err := Read(text)
		if err != nil || p.Size() != want {
			t.Errorf("Read(%q): %v, %v, want the size %d", text, p, err, want)
		}
	}
}

func TestSignsHoldTheirRangeAlone(t *testing.T) {
	s := Signs{}.with('\n', '\n').with(' ', '!').with('}', '~')
	for i := range 256 {
		b := byte(i)
		want := b == '\n' || b == ' ' || b == '!' || b == '}' || b == '~'
		if s.has(b) != want {
			t.Errorf("byte %d: %v, want %v", i, s.has(b), want)
		}
	}
}

func TestANetAnswersTheSameAgain(t *testing.T) {
	p, err := Read("(a|bc)*d?")
	if err != nil {
		t.Fatal(err)
	}
	n := NewNet(p)
	for range 2 {
		for text, want := range map[string]bool{"": true, "abca": true, "bcd": true, "b": false, "dd": false} {
			if n.Matches(text) != want {
				t.Errorf("Matches(%q) is not %v", text, want)
			}
		}
	}
}

func mustNet(t *testing.T, text string) *Net {
	t.Helper()
	p, err := Read(text)
	if err != nil {
		t.Fatal(err)
	}
	return NewNet(p)
}

func TestCut(t *testing.T) {
	for _, c := range []struct{ a, b, first, second string }{
		{"a*", "b*", "aa", "bb"}, {"a*", "b*", "", "b"}, {"a*", "b*", "a", ""}, {"a*", "b*", "", ""},
		{"a|ab", "c|bd", "a", "c"}, {"a|ab", "c|bd", "ab", "c"}, {"a|ab", "c|bd", "a", "bd"}, {"a|ab", "c|bd", "ab", "bd"},
		{"a*", "a", strings.Repeat("a", 100), "a"}, {"a", "a*", "a", strings.Repeat("a", 100)},
	} {
		first, second := Cut(mustNet(t, c.a), mustNet(t, c.b), c.first+c.second)
		if first != c.first || second != c.second {
			t.Errorf("%q is cut by %q, %q into %q, %q", c.first+c.second, c.a, c.b, first, second)
		}
	}
}

func TestPieces(t *testing.T) {
	for _, c := range []struct{ one, pieces string }{
		{"a", ""}, {"a", "a"}, {"a", "a a a"}, {"a*b", "aab b ab"}, {"a|ab|bb", "ab"}, {"a|ab|bb", "a bb"}, {"a|ab|bb", "ab bb"}, {"a|ab|bb", "bb ab bb a"},
	} {
		text := strings.ReplaceAll(c.pieces, " ", "")
		got := strings.Join(Pieces(mustNet(t, c.one), mustNet(t, "("+c.one+")*"), text), " ")
		if got != c.pieces {
			t.Errorf("%q is cut by %q into %q", text, c.one, got)
		}
	}
}
