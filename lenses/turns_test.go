package lenses_test

import (
	"strings"
	"testing"
	"unsafe"

	"lenses/api"
	"lenses/lenses"
)

func checkGet(t *testing.T, program string, l *lenses.Lens, source, want string) {
	t.Helper()
	if got, err := l.Get(source); got != want || err != api.OK {
		t.Errorf("%q: Get(%q) = %q, %d, want %q", program, source, got, err, want)
	}
}

func checkCreate(t *testing.T, program string, l *lenses.Lens, view, want string) {
	t.Helper()
	if got, err := l.Create(view); got != want || err != api.OK {
		t.Errorf("%q: Create(%q) = %q, %d, want %q", program, view, got, err, want)
	}
}

// checkTurned asks what must hold of the answers, whatever they are: they come with an error or not, are views and sources where they are not too long, and what was created is read again.
func checkTurned(t *testing.T, program string, l *lenses.Lens, text string, source, view bool) {
	t.Helper()
	got, err := l.Get(text)
	if (err != api.OK || !source) && (err != api.ErrSource || source || got != "") {
		t.Errorf("%q: Get(%q) = %q, %d", program, text, got, err)
	}
	if source && len(got) <= 60 && !l.IsView(got) {
		t.Errorf("%q: Get(%q) = %q, which is no view", program, text, got)
	}
	made, err := l.Create(text)
	if (err != api.OK || !view) && (err != api.ErrView || view || made != "") {
		t.Errorf("%q: Create(%q) = %q, %d", program, text, made, err)
	}
	if view && len(made) <= 60 {
		checkGet(t, program, l, made, text)
	}
}

func checkNoSource(t *testing.T, program string, l *lenses.Lens, texts ...string) {
	t.Helper()
	for _, text := range texts {
		if got, err := l.Get(text); got != "" || err != api.ErrSource {
			t.Errorf("%q: Get(%q) = %q, %d, want %d", program, text, got, err, api.ErrSource)
		}
	}
}

func checkNoView(t *testing.T, program string, l *lenses.Lens, texts ...string) {
	t.Helper()
	for _, text := range texts {
		if got, err := l.Create(text); got != "" || err != api.ErrView {
			t.Errorf("%q: Create(%q) = %q, %d, want %d", program, text, got, err, api.ErrView)
		}
	}
}

// turnsOf is a program with some of its sources and their views, and some of its views and the sources that are made for them.
type turnsOf struct {
	program string
	get     []oracleTurn
	create  []oracleTurn
}

func checkTurns(t *testing.T, all ...turnsOf) {
	t.Helper()
	for _, c := range all {
		l := mustCompile(t, c.program)
		for _, turn := range c.get {
			checkGet(t, c.program, l, turn.from, turn.to)
		}
		for _, turn := range c.create {
			checkCreate(t, c.program, l, turn.from, turn.to)
		}
	}
}

func TestP8P9Copy(t *testing.T) {
	checkTurns(t,
		turnsOf{"/ab*/", []oracleTurn{{"a", "a"}, {"abbb", "abbb"}}, []oracleTurn{{"a", "a"}, {"abb", "abb"}}},
		turnsOf{"//", []oracleTurn{{"", ""}}, []oracleTurn{{"", ""}}},
		turnsOf{"/a*/", []oracleTurn{{"", ""}, {"aa", "aa"}}, []oracleTurn{{"", ""}, {"aa", "aa"}}},
		turnsOf{"/(a| |\n|\\\\)*/", []oracleTurn{{"a \n\\", "a \n\\"}}, []oracleTurn{{"\n\n ", "\n\n "}}},
	)
}

func TestP8P9LeaveOut(t *testing.T) {
	checkTurns(t,
		turnsOf{`-/[0-9]+/"7"`, []oracleTurn{{"123", ""}, {"7", ""}}, []oracleTurn{{"", "7"}}},
		turnsOf{`-/x*/"xx"`, []oracleTurn{{"", ""}, {"x", ""}, {"xxx", ""}}, []oracleTurn{{"", "xx"}}},
		turnsOf{`-/x*/""`, []oracleTurn{{"xxx", ""}}, []oracleTurn{{"", ""}}},
		turnsOf{`-/\\|a/"\"`, []oracleTurn{{`\`, ""}, {"a", ""}}, []oracleTurn{{"", `\`}}},
		turnsOf{"-/\n| /\" \"", []oracleTurn{{"\n", ""}, {" ", ""}}, []oracleTurn{{"", " "}}},
	)
}

func TestP8P9PutIn(t *testing.T) {
	checkTurns(t,
		turnsOf{`+"w"`, []oracleTurn{{"", "w"}}, []oracleTurn{{"w", ""}}},
		turnsOf{`+""`, []oracleTurn{{"", ""}}, []oracleTurn{{"", ""}}},
		turnsOf{`+"a*(\."`, []oracleTurn{{"", `a*(\.`}}, []oracleTurn{{`a*(\.`, ""}}},
		turnsOf{`+"a"+"b"`, []oracleTurn{{"", "ab"}}, []oracleTurn{{"ab", ""}}},
	)
}

func TestP8P9Row(t *testing.T) {
	checkTurns(t,
		turnsOf{`/[a-z]+/-/,/","/[0-9]+/`, []oracleTurn{{"ab,12", "ab12"}, {"a,1", "a1"}}, []oracleTurn{{"ab12", "ab,12"}, {"z0", "z,0"}}},
		turnsOf{`-/x*/"xx"/a/`, []oracleTurn{{"xxxa", "a"}, {"a", "a"}}, []oracleTurn{{"a", "xxa"}}},
		turnsOf{`+"#"/a/+"!"`, []oracleTurn{{"a", "#a!"}}, []oracleTurn{{"#a!", "a"}}},
		turnsOf{"/a*//b*//c*/", []oracleTurn{{"", ""}, {"aacc", "aacc"}, {"b", "b"}}, []oracleTurn{{"", ""}, {"abc", "abc"}}},
		turnsOf{`-/a*/"a"-/b*/""/c/`, []oracleTurn{{"aabbc", "c"}, {"c", "c"}, {"bc", "c"}}, []oracleTurn{{"c", "ac"}}},
		turnsOf{`/a?/-/-/"-"/a/`, []oracleTurn{{"-a", "a"}, {"a-a", "aa"}}, []oracleTurn{{"a", "-a"}, {"aa", "a-a"}}},
		turnsOf{`/a*/+"a"`, []oracleTurn{{"", "a"}, {"aa", "aaa"}}, []oracleTurn{{"a", ""}, {"aaa", "aa"}}},
		// The part of the first may be short or long, whatever could follow.
		turnsOf{"/a|ab//c|bd/", []oracleTurn{{"ac", "ac"}, {"abc", "abc"}, {"abd", "abd"}, {"abbd", "abbd"}}, []oracleTurn{{"abd", "abd"}}},
		turnsOf{`/a|ab/-/,|b;/","/c/`, []oracleTurn{{"a,c", "ac"}, {"ab,c", "abc"}, {"ab;c", "ac"}, {"abb;c", "abc"}}, []oracleTurn{{"ac", "a,c"}, {"abc", "ab,c"}}},
	)
}

func TestP8P9ChangePlaces(t *testing.T) {
	checkTurns(t,
		turnsOf{"(/a/~/b/)", []oracleTurn{{"ab", "ba"}}, []oracleTurn{{"ba", "ab"}}},
		turnsOf{"(/a*/~/b*/)", []oracleTurn{{"", ""}, {"aab", "baa"}, {"aa", "aa"}, {"b", "b"}}, []oracleTurn{{"", ""}, {"bba", "abb"}, {"aa", "aa"}}},
		turnsOf{`(/a+/~-/,/","/b/)`, []oracleTurn{{"aa,b", "baa"}}, []oracleTurn{{"baa", "aa,b"}}},
		turnsOf{`(/a/-/1*/"11"~+"#"/b/-/2*/"")`, []oracleTurn{{"a1b22", "#ba"}}, []oracleTurn{{"#ba", "a11b"}}},
		turnsOf{"((/a/~/b/)~(/c/~/d/))", []oracleTurn{{"abcd", "dcba"}}, []oracleTurn{{"dcba", "abcd"}}},
		turnsOf{"(/a//b/~/c//d/)", []oracleTurn{{"abcd", "cdab"}}, []oracleTurn{{"cdab", "abcd"}}},
		turnsOf{"(/a/|/b/~/c/|/d/)", []oracleTurn{{"ad", "da"}, {"bc", "cb"}}, []oracleTurn{{"ca", "ac"}, {"db", "bd"}}},
		// The views are cut in the order of the second, then the first.
		turnsOf{"(/a|ab/-/;/\";\"~/b?c/)", []oracleTurn{{"a;bc", "bca"}, {"ab;c", "cab"}}, []oracleTurn{{"bca", "a;bc"}, {"cab", "ab;c"}, {"bcab", "ab;bc"}}},
		turnsOf{"(/a/~/a*/)", []oracleTurn{{"a", "a"}, {"aaa", "aaa"}}, []oracleTurn{{"a", "a"}, {"aaa", "aaa"}}},
		turnsOf{`(/a/-/1/"1"~/a*/-/2/"2")`, []oracleTurn{{"a1aa2", "aaa"}, {"a12", "a"}}, []oracleTurn{{"aaa", "a1aa2"}, {"a", "a12"}}},
	)
}

func TestP8P9Union(t *testing.T) {
	checkTurns(t,
		turnsOf{"/a/|/b/", []oracleTurn{{"a", "a"}, {"b", "b"}}, []oracleTurn{{"a", "a"}, {"b", "b"}}},
		turnsOf{`-/a/"a"/b/|/c/+"!"`, []oracleTurn{{"ab", "b"}, {"c", "c!"}}, []oracleTurn{{"b", "ab"}, {"c!", "c"}}},
		// Both sides have the view: the first one creates.
		turnsOf{`/a/-/1/"1"|/a/-/2/"2"`, []oracleTurn{{"a1", "a"}, {"a2", "a"}}, []oracleTurn{{"a", "a1"}}},
		turnsOf{`/a/-/2/"2"|/a/-/1/"1"`, []oracleTurn{{"a1", "a"}, {"a2", "a"}}, []oracleTurn{{"a", "a2"}}},
		turnsOf{`/a/-/1/"1"|/[ab]/-/2/"2"`, []oracleTurn{{"a1", "a"}, {"a2", "a"}, {"b2", "b"}}, []oracleTurn{{"a", "a1"}, {"b", "b2"}}},
		turnsOf{`/[ab]/-/1/"1"|/[bc]/-/2/"2"|/[a-d]/-/3/"3"`, []oracleTurn{{"b1", "b"}, {"b2", "b"}, {"b3", "b"}, {"d3", "d"}}, []oracleTurn{{"a", "a1"}, {"b", "b1"}, {"c", "c2"}, {"d", "d3"}}},
		turnsOf{`(/x/|/a/-/1/"1")|/a/-/2/"2"`, []oracleTurn{{"x", "x"}, {"a1", "a"}, {"a2", "a"}}, []oracleTurn{{"x", "x"}, {"a", "a1"}}},
		turnsOf{"(/a/~/b/)|/ba/", []oracleTurn{{"ab", "ba"}, {"ba", "ba"}}, []oracleTurn{{"ba", "ab"}}},
		turnsOf{"/ba/|(/a/~/b/)", []oracleTurn{{"ab", "ba"}, {"ba", "ba"}}, []oracleTurn{{"ba", "ba"}}},
		turnsOf{`-/1/"1"|-/2/"2"`, []oracleTurn{{"1", ""}, {"2", ""}}, []oracleTurn{{"", "1"}}},
		turnsOf{`+"a"|/b/`, []oracleTurn{{"", "a"}, {"b", "b"}}, []oracleTurn{{"a", ""}, {"b", "b"}}},
		turnsOf{`/b/|-/a*/"aa"`, []oracleTurn{{"", ""}, {"b", "b"}, {"a", ""}}, []oracleTurn{{"", "aa"}, {"b", "b"}}},
		turnsOf{"(/a/|/b/)(/c/|/d/)", []oracleTurn{{"bd", "bd"}, {"ac", "ac"}}, []oracleTurn{{"bd", "bd"}, {"ad", "ad"}}},
	)
}

// repeats has both kinds of repeat of a lens, which read and create alike.
func repeats(l string, get, create []oracleTurn) []turnsOf {
	return []turnsOf{{"(" + l + ")*", get, create}, {"<" + l + ">", get, create}}
}

func TestP8P9Repeat(t *testing.T) {
	checkTurns(t, repeats("/a/", []oracleTurn{{"", ""}, {"a", "a"}, {"aaa", "aaa"}}, []oracleTurn{{"", ""}, {"aa", "aa"}})...)
	checkTurns(t, repeats("/a|ab|bb/", []oracleTurn{{"abb", "abb"}, {"abbb", "abbb"}}, []oracleTurn{{"abbbb", "abbbb"}})...)
	checkTurns(t, repeats(`/a|ab|bb/-/;/";"`, []oracleTurn{{"a;bb;", "abb"}, {"ab;bb;a;", "abbba"}}, []oracleTurn{{"abb", "a;bb;"}, {"abbb", "ab;bb;"}, {"bbab", "bb;ab;"}})...)
	checkTurns(t, repeats("(/a/~/b/)", []oracleTurn{{"", ""}, {"abab", "baba"}}, []oracleTurn{{"", ""}, {"baba", "abab"}})...)
	checkTurns(t, repeats(`/a/-/1/"1"|/[ab]/-/2/"2"`, []oracleTurn{{"a1b2a2", "aba"}, {"a2", "a"}}, []oracleTurn{{"aba", "a1b2a1"}, {"bb", "b2b2"}})...)
	checkTurns(t, repeats(`+"-"/[0-9]/`, []oracleTurn{{"", ""}, {"12", "-1-2"}}, []oracleTurn{{"", ""}, {"-1-2", "12"}})...)
	checkTurns(t, repeats(`-/x*/"x"/[ab]/`, []oracleTurn{{"xxaba", "aba"}, {"bxa", "ba"}}, []oracleTurn{{"", ""}, {"aba", "xaxbxa"}})...)
	// The same key again, and keys in any order: they are of no weight here.
	checkTurns(t, repeats(`/[a-z]+/-/,/","/[0-9]/`, []oracleTurn{{"b,1a,2b,3", "b1a2b3"}}, []oracleTurn{{"b1a2b3", "b,1a,2b,3"}})...)
	checkTurns(t,
		turnsOf{"/a+b/*", []oracleTurn{{"", ""}, {"abaab", "abaab"}}, []oracleTurn{{"aabab", "aabab"}}},
		turnsOf{"(/a/)*/b/", []oracleTurn{{"b", "b"}, {"aab", "aab"}}, []oracleTurn{{"b", "b"}, {"ab", "ab"}}},
	)
}

func TestP8P9PartsWithinParts(t *testing.T) {
	checkTurns(t,
		turnsOf{`(</a/-/1*/"">-/,/","~/b*/)`, []oracleTurn{{"a11a,bb", "bbaa"}, {",", ""}}, []oracleTurn{{"bbaa", "aa,bb"}, {"", ","}}},
		turnsOf{`</[a-z]+/(-/=/"="/[0-9]/)*-/;/";"+".">`, []oracleTurn{{"a;bc=1=2;", "a.bc12."}, {"x=0;", "x0."}}, []oracleTurn{{"a.bc12.", "a;bc=1=2;"}}},
		turnsOf{`((/a/~/b/)*-/,/","~(/c/~/d/)*)`, []oracleTurn{{"abab,cd", "dcbaba"}, {",", ""}}, []oracleTurn{{"dcba", "ab,cd"}, {"dcdc", ",cdcd"}}},
		turnsOf{`(<(/a/~-/1?/"1"/b/)>/;/)*`, []oracleTurn{{"ab;a1b;;", "ba;ba;;"}}, []oracleTurn{{"baba;;", "a1ba1b;;"}}},
		turnsOf{`(-/x/"x"(/a/|+"#"/b/)|(/c/~/d/))*`, []oracleTurn{{"xacdxb", "adc#b"}}, []oracleTurn{{"dc#ba", "cdxbxa"}}},
		turnsOf{nest(11, `</a/-/;/";">`), []oracleTurn{{"a;a;", "aa"}}, []oracleTurn{{"aa", "a;a;"}}},
		turnsOf{`(((/a/-/1/"1")*/b/-/2/"2")*/c/-/3/"3")*`, []oracleTurn{{"a1a1b2c3b2c3", "aabcbc"}, {"c3c3", "cc"}}, []oracleTurn{{"aabcbc", "a1a1b2c3b2c3"}, {"bc", "b2c3"}}},
	)
}

func TestP8P9Examples(t *testing.T) {
	checkTurns(t,
		turnsOf{api.Commas, []oracleTurn{{"ab,1;c,22;", "ab1c22"}, {"", ""}, {"a,1;a,1;", "a1a1"}}, []oracleTurn{{"ab1c22", "ab,1;c,22;"}, {"", ""}, {"b2a1", "b,2;a,1;"}}},
		turnsOf{api.Equals, []oracleTurn{{"ab  =1!!!c=22!", "ab1c22"}, {"a=  1!", "a1"}, {"", ""}}, []oracleTurn{{"ab1c22", "ab=1!c=22!"}, {"", ""}}},
	)
}

func TestP8P9Length(t *testing.T) {
	a := func(times int) string { return strings.Repeat("a", times) }
	both := mustCompile(t, "/a/*")
	checkGet(t, "/a/*", both, a(60), a(60))
	checkCreate(t, "/a/*", both, a(60), a(60))
	checkNoSource(t, "/a/*", both, a(61), a(100000))
	checkNoView(t, "/a/*", both, a(61), a(100000))
	one := mustCompile(t, "/a*//b?/")
	checkGet(t, "row", one, a(59)+"b", a(59)+"b")
	checkCreate(t, "row", one, a(59)+"b", a(59)+"b")
	checkNoSource(t, "row", one, a(60)+"b")
	checkNoView(t, "row", one, a(60)+"b")
}

// An answer of more than 60 bytes is whole, and is no source or view.
func TestP8P9LongAnswers(t *testing.T) {
	a := func(times int) string { return strings.Repeat("a", times) }
	for _, program := range []string{`(/a/-/;/";")*`, `</a/-/;/";">`} {
		l := mustCompile(t, program)
		checkCreate(t, program, l, a(30), strings.Repeat("a;", 30))
		checkGet(t, program, l, strings.Repeat("a;", 30), a(30))
		for _, times := range []int{31, 60} {
			checkCreate(t, program, l, a(times), strings.Repeat("a;", times))
			checkNoSource(t, program, l, strings.Repeat("a;", times))
		}
		checkNoView(t, program, l, a(61))
	}
	for _, program := range []string{`(/a/+";")*`, `</a/+";">`} {
		l := mustCompile(t, program)
		checkGet(t, program, l, a(30), strings.Repeat("a;", 30))
		checkCreate(t, program, l, strings.Repeat("a;", 30), a(30))
		for _, times := range []int{31, 60} {
			checkGet(t, program, l, a(times), strings.Repeat("a;", times))
			checkNoView(t, program, l, strings.Repeat("a;", times))
		}
		checkNoSource(t, program, l, a(61))
	}
	word := "0123456789 0123456789+"
	great := mustCompile(t, `</a/+"`+word+`">`)
	checkGet(t, "long word", great, a(60), strings.Repeat("a"+word, 60))
	out := mustCompile(t, `/a*/-/bb?/"bb"`)
	checkCreate(t, "two more", out, a(60), a(60)+"bb")
	checkCreate(t, "two more", out, a(58), a(58)+"bb")
	checkGet(t, "two more", out, a(58)+"bb", a(58))
	checkNoSource(t, "two more", out, a(59)+"bb")
}

func TestP8NoSource(t *testing.T) {
	for program, texts := range map[string][]string{
		"/a+/": {"", "b", "ab", "a ", "a\n", "A"}, "//": {"a", " "}, `-/x/"x"`: {"", "xx", "a"}, `+"w"`: {"w", "a"}, "(/a/~/b/)": {"", "ba", "a", "abab"},
		`/a/-/1/"1"|/b/`: {"a", "b1", "ab", ""}, "/ab/*": {"a", "aab", "abb"}, "</ab/>": {"a", "aab", "abb"}, `-/x*/"xx"/a/`: {"", "x", "aa", "xax"},
		api.Commas: {"ab1c22", "ab,1", "ab,1;c", ",1;", "ab,1;;", "é", "a,1;\x00", "\x00a,1;"},
	} {
		checkNoSource(t, program, mustCompile(t, program), texts...)
	}
}

func TestP9NoView(t *testing.T) {
	for program, texts := range map[string][]string{
		"/a+/": {"", "b", "ab", "a ", "a\n", "A"}, "//": {"a", " "}, `-/x/"x"`: {"x", "a"}, `+"w"`: {"", "ww", "a"}, "(/a/~/b/)": {"", "ab", "b", "baba"},
		`/a/-/1/"1"|/b/`: {"a1", "b1", "ab", ""}, "/ab/*": {"a", "aab", "abb"}, "</ab/>": {"a", "aab", "abb"}, `-/x*/"xx"/a/`: {"", "xa", "aa", "x"},
		api.Commas: {"ab,1;c,22;", "ab", "1", "a1b", "é", "a1\x00", "\x00a1"},
	} {
		checkNoView(t, program, mustCompile(t, program), texts...)
	}
}

func TestP8P9EveryByte(t *testing.T) {
	const program = "</[0-z]| |\n|\\~|\\//-/;/\";\">"
	l := mustCompile(t, program)
	for i := range 256 {
		text := string([]byte{byte(i)})
		if i >= '0' && i <= 'z' || text == " " || text == "\n" || text == "~" || text == "/" {
			checkGet(t, program, l, text+";a;", text+"a")
			checkCreate(t, program, l, text+"a", text+";a;")
			continue
		}
		checkNoSource(t, program, l, text+";a;", "a;"+text, "a;"+text+";")
		checkNoView(t, program, l, text+"a", "a"+text, text)
	}
}

// An answer lies in memory of its own, even where it is the text that was handed in.
func TestAnswersShareNoMemory(t *testing.T) {
	text := strings.Repeat("a", 40)
	check := func(program, answer string) {
		t.Helper()
		if answer != text || unsafe.StringData(answer) == unsafe.StringData(text) {
			t.Errorf("%q: the answer %q is wrong, or lies where the text does", program, answer)
		}
	}
	for _, program := range []string{"/a*/", "(/a*/)", "/a//a*/", "/a/*", "/b/|/a*/", "///a*/", `-/b*/""/a*/`} {
		l := mustCompile(t, program)
		got, _ := l.Get(text)
		check(program, got)
		made, _ := l.Create(text)
		check(program, made)
		put, _ := l.Put(text, "a")
		check(program, put)
		turned, _ := lenses.Convert(l, l, text)
		check(program, turned)
	}
	for _, program := range []string{`-/a*/""`, `-/b*/""-/a*/""`, `/b/|-/a*/""`} {
		kept, _ := mustCompile(t, program).Put("", text)
		check(program, kept)
	}
}
