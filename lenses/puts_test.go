package lenses_test

import (
	"strings"
	"testing"

	"lenses/api"
	"lenses/lenses"
)

func checkPut(t *testing.T, program string, l *lenses.Lens, view, source, want string) {
	t.Helper()
	if got, err := l.Put(view, source); got != want || err != api.OK {
		t.Errorf("%q: Put(%.99q, %.99q) = %q, %d, want %q", program, view, source, got, err, want)
	}
}

func checkNoPut(t *testing.T, program string, l *lenses.Lens, view, source string, want api.Errno) {
	t.Helper()
	if got, err := l.Put(view, source); got != "" || err != want {
		t.Errorf("%q: Put(%.99q, %.99q) = %q, %d, want %d", program, view, source, got, err, want)
	}
}

// checkWritten asks what must hold of Put, whatever it answers: it comes with an error or not, and what was put is read again.
func checkWritten(t *testing.T, program string, l *lenses.Lens, view, source string) {
	t.Helper()
	switch {
	case !l.IsView(view):
		checkNoPut(t, program, l, view, source, api.ErrView)
		return
	case !l.IsSource(source):
		checkNoPut(t, program, l, view, source, api.ErrSource)
		return
	}
	got, err := l.Put(view, source)
	if err != api.OK {
		t.Errorf("%q: Put(%.99q, %.99q) = %q, %d", program, view, source, got, err)
	}
	if len(got) <= 60 {
		checkGet(t, program, l, got, view)
	}
}

// checkWrittenBack asks that a source stays as it is, if what is read out of it is not too long to be put back.
func checkWrittenBack(t *testing.T, program string, l *lenses.Lens, source string) {
	t.Helper()
	view, err := l.Get(source)
	if err != api.OK {
		t.Errorf("%q: Get(%q) = %q, %d", program, source, view, err)
	}
	if len(view) > 60 {
		checkNoPut(t, program, l, view, source, api.ErrView)
		return
	}
	checkPut(t, program, l, view, source, source)
}

// putsOf is a program with some of its views, each with the source into which it is put and what comes of it.
type putsOf struct {
	program string
	puts    [][3]string
}

// checkPuts asks the laws (P13) of all that is put, too.
func checkPuts(t *testing.T, all ...putsOf) {
	t.Helper()
	for _, c := range all {
		l := mustCompile(t, c.program)
		for _, put := range c.puts {
			view, source, want := put[0], put[1], put[2]
			checkPut(t, c.program, l, view, source, want)
			checkWritten(t, c.program, l, view, source)
			checkWrittenBack(t, c.program, l, source)
			checkWrittenBack(t, c.program, l, want)
		}
	}
}

func TestP10Copy(t *testing.T) {
	checkPuts(t,
		putsOf{"/ab*/", [][3]string{{"a", "abb", "a"}, {"abb", "a", "abb"}, {"a", "a", "a"}}},
		putsOf{"//", [][3]string{{"", "", ""}}},
		putsOf{"/a*/", [][3]string{{"", "aa", ""}, {"aa", "", "aa"}}},
		putsOf{"/(a| |\n|\\\\)*/", [][3]string{{"a \n\\", "\n", "a \n\\"}}},
	)
}

func TestP10LeaveOut(t *testing.T) {
	checkPuts(t,
		putsOf{`-/[0-9]+/"7"`, [][3]string{{"", "123", "123"}, {"", "7", "7"}}},
		putsOf{`-/x*/"xx"`, [][3]string{{"", "", ""}, {"", "x", "x"}, {"", "xxx", "xxx"}}},
		putsOf{"-/\n| /\" \"", [][3]string{{"", "\n", "\n"}}},
	)
}

func TestP10PutIn(t *testing.T) {
	checkPuts(t,
		putsOf{`+"w"`, [][3]string{{"w", "", ""}}},
		putsOf{`+""`, [][3]string{{"", "", ""}}},
		putsOf{`+"a"+"b"`, [][3]string{{"ab", "", ""}}},
		putsOf{`+"#"/a*/`, [][3]string{{"#aa", "a", "aa"}, {"#", "a", ""}}},
	)
}

func TestP10Row(t *testing.T) {
	checkPuts(t,
		putsOf{`/[a-z]+/-/ *, */","/[0-9]+/`, [][3]string{{"c7", "ab , 12", "c , 7"}, {"abc123", "a ,1", "abc ,123"}}},
		putsOf{`-/x*/"xx"/[ab]/`, [][3]string{{"b", "xxxa", "xxxb"}, {"a", "a", "a"}, {"b", "xxa", "xxb"}}},
		putsOf{`-/a*/"a"-/b*/""/c|d/`, [][3]string{{"d", "aabbc", "aabbd"}, {"d", "c", "d"}, {"c", "bc", "bc"}}},
		putsOf{"/a*//b*//c*/", [][3]string{{"abc", "", "abc"}, {"", "abc", ""}, {"c", "aab", "c"}}},
		putsOf{`+"#"/[ab]/-/;+/";"+"!"`, [][3]string{{"#b!", "a;;", "b;;"}}},
		putsOf{`/a*/+"a"-/,*/","`, [][3]string{{"a", "aa,,", ",,"}, {"aaa", "", "aa"}}},
		// The view is cut where its own parts are, not where those of the source are.
		putsOf{`/a|ab/-/,|b;/","/c/`, [][3]string{{"ac", "ab,c", "a,c"}, {"ac", "ab;c", "ab;c"}, {"abc", "ab;c", "abb;c"}, {"ac", "abb;c", "ab;c"}}},
		putsOf{`/a?/-/-+/"-"/b?a/`, [][3]string{{"aba", "a---a", "a---ba"}, {"a", "a--ba", "--a"}, {"aa", "-ba", "a-a"}}},
	)
}

func TestP10ChangePlaces(t *testing.T) {
	checkPuts(t,
		putsOf{"(/a/~/b/)", [][3]string{{"ba", "ab", "ab"}}},
		putsOf{"(/a*/~/b*/)", [][3]string{{"bba", "aab", "abb"}, {"", "ab", ""}, {"a", "b", "a"}, {"b", "a", "b"}}},
		putsOf{`(/[a-z]+/~-/ *= */"="/[0-9]+/)`, [][3]string{{"12ab", "c  = 3", "ab  = 12"}}},
		putsOf{`(/a+/-/1*/"11"~+"#"/b+/-/2*/"")`, [][3]string{{"#bba", "aa1b22", "a1bb22"}, {"#baaa", "ab", "aaab"}}},
		putsOf{`((/a*/-/1*/""~/b/)-/;+/";"~(/c/~/d*/-/2*/""))`, [][3]string{{"ddcba", "1b;;cd22", "a1b;;cdd22"}}},
		putsOf{"(/a|ab/-/;+/\";\"~/b?c/)", [][3]string{{"bca", "ab;;c", "a;;bc"}, {"cab", "a;;;bc", "ab;;;c"}, {"bcab", "a;c", "ab;bc"}}},
		putsOf{`(/a/-/1+/"1"~/a*/-/2+/"2")`, [][3]string{{"aaa", "a1122", "a11aa22"}, {"a", "a1aa2", "a12"}}},
		putsOf{`(/x/-/1*/"1"|/y/-/2*/"2"~/z/)`, [][3]string{{"zx", "y22z", "x1z"}, {"zy", "y22z", "y22z"}}},
	)
}

func TestP10Union(t *testing.T) {
	checkPuts(t,
		putsOf{"/a/|/b/", [][3]string{{"a", "b", "a"}, {"b", "a", "b"}, {"a", "a", "a"}, {"b", "b", "b"}}},
		// Both sides have the view: the side of the source keeps it.
		putsOf{`/a/-/1+/"1"|/a/-/2+/"2"`, [][3]string{{"a", "a11", "a11"}, {"a", "a22", "a22"}}},
		// The view is of the other side than the source: that side creates.
		putsOf{`/a/-/1+/"1"|/b/-/2+/"2"`, [][3]string{{"a", "b22", "a1"}, {"b", "a11", "b2"}, {"b", "b22", "b22"}, {"a", "a11", "a11"}}},
		// Of some views there is a choice.
		putsOf{`/a/-/1+/"1"|/[ab]/-/2+/"2"`, [][3]string{{"a", "a11", "a11"}, {"b", "a11", "b2"}, {"a", "b22", "a22"}, {"b", "b22", "b22"}, {"a", "a22", "a22"}}},
		putsOf{`/[ab]/-/1+/"1"|/b/-/2+/"2"`, [][3]string{{"a", "b22", "a1"}, {"b", "a11", "b11"}, {"b", "b22", "b22"}}},
		// Of three, the last two are one side: the first is asked only where neither of them has the view, and of them the one of the source goes ahead.
		putsOf{`/[ab]/-/1+/"1"|/[bc]/-/2+/"2"|/[a-d]/-/3+/"3"`, [][3]string{
			{"a", "b11", "a11"}, {"b", "b11", "b11"}, {"c", "b11", "c2"}, {"d", "b11", "d3"},
			{"a", "b22", "a3"}, {"b", "c22", "b22"}, {"c", "b22", "c22"}, {"d", "b22", "d3"},
			{"a", "b33", "a33"}, {"b", "d33", "b33"}, {"c", "b33", "c33"}, {"d", "b33", "d33"},
		}},
		// With brackets the first two are one side.
		putsOf{`(/[ab]/-/1+/"1"|/[ac]/-/2+/"2")|/[ad]/-/3+/"3"`, [][3]string{
			{"b", "a22", "b1"}, {"c", "b11", "c2"}, {"d", "a22", "d3"}, {"a", "c22", "a22"}, {"a", "d33", "a33"}, {"b", "d33", "b1"}, {"c", "d33", "c2"},
		}},
		putsOf{"(/a/~/b/)|/ba/", [][3]string{{"ba", "ab", "ab"}, {"ba", "ba", "ba"}}},
		putsOf{`-/1+/"1"|-/2+/"2"`, [][3]string{{"", "11", "11"}, {"", "22", "22"}}},
		putsOf{`/b/|-/a+/"aa"`, [][3]string{{"", "a", "a"}, {"", "b", "aa"}, {"b", "a", "b"}}},
		putsOf{`+"a"|/b/`, [][3]string{{"a", "b", ""}, {"b", "", "b"}, {"a", "", ""}}},
		putsOf{`(/a/-/1*/""|/b/-/2*/"")(/c/-/3*/""|/d/-/4*/"")`, [][3]string{{"ad", "b22d44", "ad44"}, {"bc", "b22d44", "b22c"}, {"ac", "b22d44", "ac"}}},
	)
}

func TestP10Repeat(t *testing.T) {
	checkPuts(t,
		putsOf{`(/[a-z]/-/[0-9]/"0")*`, [][3]string{
			{"xyz", "a1b2", "x1y2z0"}, {"xy", "a1b2", "x1y2"}, {"x", "a1b2", "x1"}, {"", "a1b2", ""}, {"xyz", "", "x0y0z0"}, {"", "", ""},
			// A key is of no weight.
			{"ba", "a1b2", "b1a2"}, {"bbb", "a1b2", "b1b2b0"},
		}},
		putsOf{"/a+b/*", [][3]string{{"abaab", "aab", "abaab"}, {"", "ab", ""}}},
		putsOf{`(/a|ab|bb/-/;+/";")*`, [][3]string{{"abb", "ab;;bb;;;", "a;;bb;;;"}, {"abbb", "a;;", "ab;;bb;"}}},
		putsOf{`((/a*/-/1*/"1"~/b/))*`, [][3]string{{"bbaa", "a11b1b", "11baa1b"}, {"bbb", "a11b", "11b1b1b"}}},
		putsOf{`(/a/-/1+/"1"|/[ab]/-/2+/"2")*`, [][3]string{{"aba", "a22b22", "a22b22a1"}, {"bab", "a11a11b22", "b2a11b22"}, {"ab", "b22a11a11", "a22b2"}}},
		putsOf{`(+"-"/[0-9]/-/;*/";")*`, [][3]string{{"-3-4-5", "1;;2", "3;;45;"}, {"-3", "1;;2", "3;;"}}},
		putsOf{`(/a/-/1*/"1")*/b/-/2*/"2"`, [][3]string{{"aab", "a11b22", "a11a1b22"}, {"b", "a11b22", "b22"}}},
	)
}

func TestP11ByKeys(t *testing.T) {
	checkPuts(t,
		// In another order, with a new one, with one that is gone.
		putsOf{`</[a-z]/-/[0-9]/"0">`, [][3]string{
			{"ba", "a1b2", "b2a1"}, {"bac", "a1b2", "b2a1c0"}, {"b", "a1b2", "b2"}, {"c", "a1b2", "c0"}, {"", "a1b2", ""}, {"cab", "", "c0a0b0"}, {"", "", ""},
			// Keys of which there are several: the first that was not used yet.
			{"aab", "a1a2a3", "a1a2b0"}, {"ba", "a1a2b3b4", "b3a1"}, {"aba", "a1a2b3b4", "a1b3a2"}, {"aaa", "a1b3a2", "a1a2a0"}, {"bbaa", "a1b2a3b4", "b2b4a1a3"},
		}},
		// As many letters as there are: ab is neither a nor abc.
		putsOf{`</[a-z]+/-/ *= */"="/[0-9]+/-/;/";">`, [][3]string{
			{"ab1", "abc  =1;", "ab=1;"}, {"abc1", "ab  =1;", "abc=1;"}, {"ab9a8", "a  =1;ab =2;", "ab =9;a  =8;"}, {"a7ab8a9", "ab =1;a  =2;", "a  =7;ab =8;a=9;"},
		}},
		// No letters at all are a key as well.
		putsOf{`</[a-z]*[0-9]/-/!*/"">`, [][3]string{
			{"12a3", "a1!!!2!3!!", "1!2!!a3!!!"}, {"123", "a1!4!", "1!23"}, {"a12", "3!", "a12!"}, {"1", "a2!!", "1"},
		}},
		putsOf{`<+"-"/[0-9]/-/;*/";">`, [][3]string{{"-3-4-5", "1;;2", "3;;45;"}, {"-3", "1;;2", "3;;"}}},
		// Great letters, digits and other signs are in no key.
		putsOf{`</(aB|a1|a |aa)/-/!*/"">`, [][3]string{{"aaa1aBa ", "aB!a !!aa!!!", "aa!!!a1!aB!!a "}}},
		putsOf{`</(a|z)(\{|` + "`" + `)/-/!*/"">`, [][3]string{{"z`a{", "a`!z{!!", "z`!!a{!"}}},
		// The key is that of the view: not of the source, nor of what is put in behind it in the source's order.
		putsOf{`<-/[0-9]*/"5"/[a-z]/-/ ?/"">`, [][3]string{{"cba", "1a 2b3c", "3c2b1a "}}},
		putsOf{`<(/[a-z]/~/1|2/-/ */"")>`, [][3]string{{"1b1a", "a1 b1  ", "b1 a1  "}, {"2b1a1c", "a1 b1  ", "b2 a1  c1"}}},
		putsOf{`<(/[0-9]/-/ */""~/[a-z]/)>`, [][3]string{{"b1a2", "3 a4  b", "1  b2 a"}}},
		putsOf{`<-/x|y/"x"/[a-z]/>`, [][3]string{{"ba", "yaxb", "xbya"}, {"bac", "yayb", "ybyaxc"}}},
		putsOf{`<+"k"/[a-z]/-/ */"">`, [][3]string{{"kbka", "a b  ", "b  a "}}},
		putsOf{`<+"k"/[0-9]/-/ */"">`, [][3]string{{"k1k2k3", "4 5  ", "1 2  3"}}},
		putsOf{`<+"-"/[a-z]/-/ */"">`, [][3]string{{"-b-a", "a b  ", "b a  "}}},
		// Letters that are written behind one another make up one key, of whatever part they are.
		putsOf{`</a|b//c|d/-/;*/"">`, [][3]string{{"bcadac", "ac;ad;;bd;;;", "bcad;;ac;"}}},
		// A union within: the source's side may give way to the other.
		putsOf{`</a1/-/;+/";"|/[ab][12]/-/!+/"!">`, [][3]string{{"b1a2", "a1;;;b2!!", "b1!!a2!"}, {"a1a1", "a2!!a1;;", "a1!!a1;;"}}},
	)
}

func TestP11Examples(t *testing.T) {
	checkPuts(t,
		putsOf{api.Commas, [][3]string{{"c7ab1", "ab,1;c,22;", "c,7;ab,1;"}, {"", "ab,1;", ""}, {"ab1", "", "ab,1;"}, {"d4c3", "ab,1;c,22;", "d,4;c,3;"}}},
		putsOf{api.Equals, [][3]string{
			{"c7ab1", "ab   =1!!c= 22!", "c= 7!ab   =1!!"}, {"ab1", "abc  =1!", "ab=1!"}, {"a1a2a3", "a =5!!a= 6!", "a =1!!a= 2!a=3!"}, {"", "", ""}, {"b2x3a1", "a =1!b  =2!!", "b  =2!!x=3!a =1!"},
		}},
	)
}

func TestP10P11PartsWithinParts(t *testing.T) {
	checkPuts(t,
		putsOf{`(</[a-c]/-/1*/"">-/,+/","~/d*/)`, [][3]string{{"ddcba", "a1b11,,d", "cb11a1,,dd"}, {"", "a1,,d", ",,"}}},
		putsOf{`</[a-z]+/(-/=+/"="/[0-9]/)*-/;+/";"+".">`, [][3]string{{"x1.a234.", "a==1===2;;x;;;", "x=1;;;a==2===3=4;;"}, {"a.", "a==1===2;;", "a;;"}}},
		// A repeat by keys within one: the inner pieces are those of the piece that was found.
		putsOf{`</[A-Z]*/</[a-z]/-/[0-9]/"0">-/;!*/";"+".">`, [][3]string{{"ba.", "a1b2;!", "b0a0;"}, {"Aba.", "Aa1b2;!", "Ab2a1;!"}, {"Bba.A.", "Aa1b2;!", "Bb2a1;!A;"}, {"Ac.ab.", "a1b2;!Bc3;!!", "Ac3;!!a1b2;!"}}},
		putsOf{`((</[a-z]/-/[0-9]/"0">/,/)*-/!*/"")`, [][3]string{{"ba,dc,", "a1b2,c3d4,e5,!!", "b2a1,d4c3,!!"}, {"dc,ba,", "a1b2,c3d4,", "d0c0,b0a0,"}}},
		putsOf{`<(/[a-z]/-/[0-9]/"0")*/,/-/!*/"">`, [][3]string{{"cd,ab,", "a1b2,!c3d4,!!", "c3d4,!!a1b2,!"}, {"ac,", "a1b2,!", "a0c0,"}}},
		putsOf{`(<(/a/~-/1?/"1"/b/)>/;/)*`, [][3]string{{"baba;;ba;", "ab;a1b;;", "aba1b;;a1b;"}}},
		putsOf{`(-/x+/"x"(/a/|+"#"/b/)|(/c/-/;*/""~/d/))*`, [][3]string{{"dc#ba", "xxac;dxxxb", "cdxbxxxa"}, {"#bdc", "xxac;dxxxb", "xxbc;d"}}},
		putsOf{nest(11, `</[a-z]/-/;+/";">`), [][3]string{{"ba", "a;;b;;;", "b;;;a;;"}}},
		putsOf{`(((/a/-/1*/"1")*/b/-/2*/"2")*/c/-/3*/"3")*`, [][3]string{{"aabcbc", "a11bcb222c", "a11a1bcb222c"}, {"bcaabbc", "a11bcb222c333", "bca1a1b222b2c333"}}},
	)
}

func TestP10Length(t *testing.T) {
	a := func(times int) string { return strings.Repeat("a", times) }
	for _, program := range []string{"/a*/", "/a/*", "</a/>", "/b?//a*/", "/b/|/a/*", "(/a*/~/b?/)"} {
		l := mustCompile(t, program)
		checkPut(t, program, l, a(60), "a", a(60))
		checkPut(t, program, l, "a", a(60), "a")
		checkPut(t, program, l, a(60), a(60), a(60))
		checkNoPut(t, program, l, a(61), "a", api.ErrView)
		checkNoPut(t, program, l, "a", a(61), api.ErrSource)
		checkNoPut(t, program, l, a(61), a(61), api.ErrView)
		checkNoPut(t, program, l, a(100000), a(100000), api.ErrView)
		checkNoPut(t, program, l, "a", a(100000), api.ErrSource)
	}
}

// An answer of more than 60 bytes is whole, and is no source. What Get answers and has more than 60 is no view.
func TestP10P11LongAnswers(t *testing.T) {
	a := func(times int) string { return strings.Repeat("a", times) }
	for _, program := range []string{`(/a/-/;+/";")*`, `</a/-/;+/";">`} {
		l := mustCompile(t, program)
		checkPut(t, program, l, a(30), "a;", strings.Repeat("a;", 30))
		checkPut(t, program, l, a(30), "a;;", "a;;"+strings.Repeat("a;", 29))
		checkPut(t, program, l, a(60), "a"+strings.Repeat(";", 59), "a"+strings.Repeat(";", 59)+strings.Repeat("a;", 59))
		checkNoPut(t, program, l, "a", strings.Repeat("a;", 31), api.ErrSource)
	}
	out := mustCompile(t, `/a*/-/b*/"b"`)
	checkPut(t, "row", out, a(60), strings.Repeat("b", 60), a(60)+strings.Repeat("b", 60))
	checkPut(t, "row", out, a(30), strings.Repeat("b", 30), a(30)+strings.Repeat("b", 30))
	for _, program := range []string{`(/a/+";")*`, `</a/+";">`} {
		l := mustCompile(t, program)
		checkWrittenBack(t, program, l, a(30))
		checkWrittenBack(t, program, l, a(31))
		checkPut(t, program, l, "a;a;", a(60), "aa")
		checkNoPut(t, program, l, strings.Repeat("a;", 31), a(31), api.ErrView)
	}
	// A view of a chunk may be too long for a view of the whole; it has a key all the same.
	word := "0123456789012345678"
	great := mustCompile(t, `</[a-z]*/-/;/";"+"`+word+`">`)
	checkPut(t, "long word", great, "b"+word+"aa"+word, a(50)+";aa;b;", "b;aa;")
}

// The view is asked ahead of the source.
func TestP10WrongInputs(t *testing.T) {
	for program, texts := range map[string]struct{ view, noView, source, noSource []string }{
		"/a+/":            {[]string{"a", "aa"}, []string{"", "b", "ab", "a ", "A"}, []string{"a"}, []string{"", "b", "a\n"}},
		"//":              {[]string{""}, []string{"a", " "}, []string{""}, []string{"a", " "}},
		`-/x/"x"`:         {[]string{""}, []string{"x", "a"}, []string{"x"}, []string{"", "xx"}},
		`+"w"`:            {[]string{"w"}, []string{"", "ww"}, []string{""}, []string{"w", "a"}},
		"(/a/~/b/)":       {[]string{"ba"}, []string{"ab", "b", ""}, []string{"ab"}, []string{"ba", "a", ""}},
		`/a/-/1/"1"|/b/`:  {[]string{"a", "b"}, []string{"a1", "ab", ""}, []string{"a1", "b"}, []string{"a", "b1", ""}},
		"/ab/*":           {[]string{"", "abab"}, []string{"a", "abb"}, []string{"", "ab"}, []string{"a", "aab"}},
		"</ab/>":          {[]string{"", "abab"}, []string{"a", "abb"}, []string{"", "ab"}, []string{"a", "aab"}},
		api.Commas:        {[]string{"", "a1", "b2a1"}, []string{"a,1;", "ab", "1", "é", "a1\x00", "\x00a1"}, []string{"", "a,1;"}, []string{"a1", "a,1", "é", "a,1;\x00", "\x00"}},
		api.Equals:        {[]string{"", "a1", "b2a1"}, []string{"a=1!", "ab", "1", "é", "\xff"}, []string{"", "a = 1!!"}, []string{"a1", "a=1", "é", "a,1;", "\xff"}},
		`-/x*/"xx"/[ab]/`: {[]string{"a", "b"}, []string{"", "xa", "x"}, []string{"a", "xxxb"}, []string{"", "x", "xax"}},
	} {
		l := mustCompile(t, program)
		for _, source := range append(texts.source, texts.noSource...) {
			for _, view := range texts.noView {
				checkNoPut(t, program, l, view, source, api.ErrView)
			}
		}
		for _, view := range texts.view {
			for _, source := range texts.noSource {
				checkNoPut(t, program, l, view, source, api.ErrSource)
			}
			for _, source := range texts.source {
				checkWritten(t, program, l, view, source)
			}
		}
	}
}

func TestP10P11EveryByte(t *testing.T) {
	const program = "</[0-z]| |\n|\\~|\\//-/!+/\"!\">"
	l := mustCompile(t, program)
	for i := range 256 {
		text := string([]byte{byte(i)})
		switch {
		case i >= 'a' && i <= 'z':
			checkPut(t, program, l, text+"5", "5!!"+text+"!!!", text+"!!!5!!")
		case i >= '0' && i <= 'z' || text == " " || text == "\n" || text == "~" || text == "/":
			checkPut(t, program, l, text+"b5", "5!!"+text+"!!!b!!!!", text+"!!b!!!!5!!!")
		default:
			checkNoPut(t, program, l, text, "a!", api.ErrView)
			checkNoPut(t, program, l, "a"+text, text, api.ErrView)
			checkNoPut(t, program, l, "a", text, api.ErrSource)
			checkNoPut(t, program, l, "a", text+"!", api.ErrSource)
		}
	}
}
