package programs

import (
	"errors"
	"strings"
	"testing"

	"lenses/reading"
)

func TestReadTellsWhatIsWrong(t *testing.T) {
	for text, want := range map[string]error{
		`</[a-z]+/-/;/";"/0/>`:              nil,
		"/a/*":                              nil,
		"/a":                                reading.ErrSyntax,
		"/a*//a*/":                          ErrType,
		"/a*//a*/)":                         reading.ErrSyntax,
		"/" + strings.Repeat("a", 25) + "/": reading.ErrSize,
		"/a*//a*//" + strings.Repeat("a", 25) + "/": reading.ErrSize,
		strings.Repeat("//", 61):                    reading.ErrLong,
	} {
		part, err := Read(text)
		if !errors.Is(err, want) || (part == nil) != (err != nil) {
			t.Errorf("Read(%q) = %v, %v, want %v", text, part, err, want)
		}
	}
}

// The bound on a text is the calls': a part knows its texts of any length.
func TestPartsKnowLongTexts(t *testing.T) {
	part, err := Read(`(/a/-/;/";")*`)
	if err != nil {
		t.Fatal(err)
	}
	if !part.IsSource(strings.Repeat("a;", 100)) || !part.IsView(strings.Repeat("a", 100)) || part.IsView(strings.Repeat("a;", 100)) {
		t.Error("a part does not know its long texts")
	}
}

// They turn texts of any length, too.
func TestPartsTurnLongTexts(t *testing.T) {
	part, err := Read(`</a/-/;/";">`)
	if err != nil {
		t.Fatal(err)
	}
	source, view := strings.Repeat("a;", 100), strings.Repeat("a", 100)
	if part.Get(source) != view || part.Create(view) != source || part.Put(view, source) != source {
		t.Error("a part does not turn its long texts")
	}
}

func TestKey(t *testing.T) {
	for view, want := range map[string]string{"": "", "ab1c": "ab", "az": "az", "1a": "", "aB": "a", "a`": "a", "z{": "z", " a": "", "aé": "a", "\n": ""} {
		if got := key(view); got != want {
			t.Errorf("key(%q) = %q, want %q", view, got, want)
		}
	}
}

// Of a key, the first piece is taken first, and none twice.
func TestStock(t *testing.T) {
	unused := stock{[]chunk{{"a", "1"}, {"b", "2"}, {"a", "3"}, {"", "4"}}}
	for _, c := range []struct {
		key, want string
		found     bool
	}{{"b", "2", true}, {"a", "1", true}, {"b", "", false}, {"c", "", false}, {"", "4", true}, {"a", "3", true}, {"a", "", false}, {"", "", false}} {
		if got, found := unused.take(c.key); got != c.want || found != c.found {
			t.Errorf("take(%q) = %q, %v, want %q, %v", c.key, got, found, c.want, c.found)
		}
	}
}

func TestNeed(t *testing.T) {
	if err := reading.Caught(func() { need(true) }); err != nil {
		t.Errorf("what holds is told as %v", err)
	}
	if err := reading.Caught(func() { need(false) }); !errors.Is(err, ErrType) {
		t.Errorf("what does not hold is told as %v", err)
	}
}
