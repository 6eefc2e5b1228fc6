package lenses_test

import (
	"strings"
	"testing"

	"lenses/api"
	"lenses/lenses"
)

func mustCompile(t *testing.T, program string) *lenses.Lens {
	t.Helper()
	l, err := lenses.Compile(program)
	if err != api.OK {
		t.Fatalf("Compile(%q) = %d", program, err)
	}
	return l
}

func checkKind(t *testing.T, program string, l *lenses.Lens, text string, source, view bool) {
	t.Helper()
	if got := l.IsSource(text); got != source {
		t.Errorf("%q: IsSource(%q) = %v", program, text, got)
	}
	if got := l.IsView(text); got != view {
		t.Errorf("%q: IsView(%q) = %v", program, text, got)
	}
}

// The texts of a case stand with blanks between; an empty one is asked where it is named by _.
func TestP7Texts(t *testing.T) {
	for _, c := range []struct{ program, source, view, both, neither string }{
		{"/ab*/", "", "", "a abb", "_ b ba"},
		{"//", "", "", "_", "a"},
		{`-/x*/"xx"/a/`, "xa xxa", "", "a", "_ x xx ax aa"},
		{`-/x+/"x"`, "x xx", "_", "", "a"},
		{`+"#x"/a/`, "a", "#xa", "", "_ # #x xa #xaa"},
		{`+"a*"`, "_", "a*", "", "a aa aaa"},
		{`+"."`, "_", ".", "", "a"},
		{"(/a/~/b/)", "ab", "ba", "", "_ a b aa abba"},
		{"(/a*/~/b/)", "aab", "baa", "b", "_ a bab"},
		{"(/a/|/b/~/c/)", "ac bc", "ca cb", "", "ab c a"},
		{`(/a/-/,/","~/b/-/;/";")`, "a,b;", "ba", "", "b;a, ab ,; a,b"},
		{"(/a/~/b/)*", "ab abab", "ba baba", "_", "abba baab a"},
		{"/ab/*", "", "", "_ ab abab", "a aab ba"},
		{`(/a/-/;/";")*`, "a; a;a;", "a aa aaa", "_", "; a;a ;a"},
		{`<+"-"/[0-9]/>`, "1 12", "-1 -1-2", "_", "- 1- 1-2 -12"},
		{`/a/-/1/"1"|/b/`, "a1", "a", "b", "_ b1 1 ab"},
		{`/a/-/1/"1"|/a/-/2/"2"|/c/`, "a1 a2", "a", "c", "a3 ac"},
		{`/[a-z]+/-/,/","/[0-9]+/`, "ab,12 a,1", "ab12 a1", "", "_ ab, ,12 ab a,b ab,12,"},
		{api.Commas, "a,1; ab,1;c,22;", "a1 ab1c22", "_", "a a, 1 ,1; a,1 ;"},
		{api.Equals, "a=1! ab=1!!c=22!", "a1 ab1c22", "_", "a= a=1 =1!"},
	} {
		l := mustCompile(t, c.program)
		ask := func(texts string, source, view bool) {
			for _, text := range strings.Fields(texts) {
				checkKind(t, c.program, l, strings.ReplaceAll(text, "_", ""), source, view)
			}
		}
		ask(c.source, true, false)
		ask(c.view, false, true)
		ask(c.both, true, true)
		ask(c.neither, false, false)
	}
	checkKind(t, api.Equals, mustCompile(t, api.Equals), "a  = 1!", true, false)
}

// The programs that come along have the same views.
func TestP7CommasAndEquals(t *testing.T) {
	commas, equals := mustCompile(t, api.Commas), mustCompile(t, api.Equals)
	for _, text := range allWords("ab12,;", 4) {
		if commas.IsView(text) != equals.IsView(text) {
			t.Errorf("%q is a view of one alone", text)
		}
	}
}

func TestP7Length(t *testing.T) {
	a := func(times int) string { return strings.Repeat("a", times) }
	both := mustCompile(t, "/a/*")
	checkKind(t, "/a/*", both, a(60), true, true)
	checkKind(t, "/a/*", both, a(61), false, false)
	checkKind(t, "/a/*", both, a(100000), false, false)
	// A view of 60 may belong to a source that is too long for one, and the other way round.
	shown := mustCompile(t, `(/a/-/;/";")*`)
	checkKind(t, "left out", shown, strings.Repeat("a;", 30), true, false)
	checkKind(t, "left out", shown, strings.Repeat("a;", 31), false, false)
	checkKind(t, "left out", shown, a(60), false, true)
	checkKind(t, "left out", shown, a(61), false, false)
	hidden := mustCompile(t, `(/a/+";")*`)
	checkKind(t, "put in", hidden, strings.Repeat("a;", 30), false, true)
	checkKind(t, "put in", hidden, strings.Repeat("a;", 31), false, false)
	checkKind(t, "put in", hidden, a(60), true, false)
	checkKind(t, "put in", hidden, a(61), false, false)
}

func TestP7EveryByte(t *testing.T) {
	l := mustCompile(t, "/[0-z]| |\n|\\~|\\//+\"x\"")
	for i := range 256 {
		text := string([]byte{byte(i)})
		in := i >= '0' && i <= 'z' || text == " " || text == "\n" || text == "~" || text == "/"
		checkKind(t, "every byte", l, text, in, false)
		checkKind(t, "every byte", l, text+"x", false, in)
	}
}
