package lenses_test

import (
	"strings"
	"testing"

	"lenses/api"
	"lenses/lenses"
)

func checkCompile(t *testing.T, program string, want api.Errno) {
	t.Helper()
	if l, err := lenses.Compile(program); err != want || (l == nil) != (err != api.OK) {
		t.Errorf("Compile(%q) = %v, %d, want %d", program, l, err, want)
	}
}

func checkAllCompile(t *testing.T, want api.Errno, programs ...string) {
	t.Helper()
	for _, program := range programs {
		checkCompile(t, program, want)
	}
}

func TestP5Programs(t *testing.T) {
	checkAllCompile(t, api.OK,
		"//", "/a/", "/a|b|/", "/(a|b)*c/", "/[a-z0-9]+/", `/\//`, `/\"/`, `/\\/`, "/\n/", "/\\\n/", "/~<>-/", "/\\(\\)/",
		`-/a/"a"`, `-//""`, `-/a*/""`, `-/a\/b/"a/b"`, `-/\\/"\"`, `-/ab|c/"c"`, `-/ +/"  "`,
		`+""`, `+"a"`, `+"x y"`, `+"\"`, `+"/"`, `+"(<|~*+-.[]?>)"`, `+" ~!"`,
		"(/a/)", "((/a/))", "(//)", `(-/a/"a")`, `(+"a")`,
		"/a/*", "(/a/)*", "((/a/)*)", "/a|b/*", "/a+b/*", "(/a/|/b/)*", "(/a/~/b/)*", `(-/a/"a"/b/)*`,
		"</a/>", "</a//b/>", "</a/|/b/>", "<(/a/~/b/)>", "</a/*/b/>", "<</a/>/b/>", `<-/a/"a"/b/>`, "(</a/>)",
		"(/a/~/b/)", "(/a//b/~/c//d/)", "(/a/|/b/~/c/)", "(/a/~/b/|/c/)", "((/a/~/b/)~(/c/~/d/))", "(</a/>~/b/*)", `(-/a/"a"~+"b")`,
		"/a//b/", "/a///", "////", "/a/(/b/)</c/>", `/a/*-/b/"b"+"c"(/d/)*`, `+"a"+"b"`, `-/a/"a"-/b/"b"`,
		"/a/|/b/", "/a/|/b/|/c/", "/a//b/|/c//d/", "(/a/|/b/)/c/|/d/", `-/a/"a"|-/b/"b"`, "</a/>/b/|/c/*/d/",
		api.Commas, api.Equals,
	)
}

func TestP5NoPrograms(t *testing.T) {
	checkAllCompile(t, api.ErrSyntax,
		"", " ", "a", ".", "\n", "\x00", "é", "/", "/a", "a/", "///", "/a/b", "/a/b/", "/a/ /b/", " /a/", "/a/ ", "/a/\n", "/a/+", "/a/?", `\/a/`,
		"-", "-a", "-/a", "-/a/", `-/a/"`, `-/a/"a`, `-/a/a"`, `-/a/ "a"`, `-"a"`, `-/a"a"`, `--/a/"a"`, `-(/a/)"a"`, `/a/"a"`, `"a"`, `-/a/"a""`, "-/a/\"\n\"", "-/\n/\"\n\"",
		"+", "+a", `+"`, `+"a`, "+x", "+/a/", `+ "a"`, `+"a""`, `+"a"a`, `++"a"`, "+\"\n\"", "+\"a\nb\"", "+\"\x00\"", "+\"\x7f\"", "+\"\t\"", "+\"é\"", "+\"\xff\"", `+"\""`,
		"()", "<>", "(", ")", "<", ">", "(/a/", "</a/", "/a/)", "/a/>", "(/a/>", "</a/)", "((/a/)", "(/a/))", "(</a/)>", "[/a/]",
		"|", "/a/|", "|/a/", "/a/||/b/", "(|/a/)", "(/a/|)", "</a/|>", "<|/a/>",
		"~", "/a/~/b/", "(~)", "(/a/~)", "(~/b/)", "(/a/~/b/~/c/)", "</a/~/b/>", "(/a/~|/b/)", "(/a/|~/b/)", "(/a/~~/b/)", "(</a/~/b/>)", "((/a/)~/b/", "/a/~",
		"*", "**", "/a/**", "(/a/)**", "(/a/~/b/)**", "</a/>*", "<*>", "(*)", `+"a"*`, `-/a/"a"*`, "*/a/", "/a/|*", "(/a/*~*)", "(/a/~*/b/)", "</a/*>*", "-/a/*\"a\"", "/a/* *",
		"/(/", "/)/", "/*/", "/a**/", "/[/", "/[]/", "/[b-a]/", "/]/", `/"/`, `/\`, `/a\/`, "/\x00/", "/\t/", "/\\\x7f/", "/é/", "/\xff/", "/[/]/", "/(a/)/", `-/(/"a"`, `-/"/"a"`, `-/*/""`,
	)
}

// Each byte stands where a part may begin, between two parts, and in a word.
func TestP5EveryByte(t *testing.T) {
	for i := range 256 {
		b := string([]byte{byte(i)})
		checkCompile(t, b, api.ErrSyntax)
		between, inWord := api.ErrSyntax, api.ErrSyntax
		if b == "|" || b == "*" {
			between = api.OK
		}
		if i >= 32 && i <= 126 && b != `"` {
			inWord = api.OK
		}
		checkCompile(t, "/a/"+b+"/b/", between)
		checkCompile(t, `+"`+b+`"`, inWord)
		checkCompile(t, `/b/+"a`+b+`"`, inWord)
	}
}

func TestP5Length(t *testing.T) {
	full := strings.Repeat("//", 60)
	checkCompile(t, full, api.OK)
	checkAllCompile(t, api.ErrLong, full+"/", full+"//", strings.Repeat("x", 121), `+"`+strings.Repeat("a", 118)+`"`, strings.Repeat("\xff", 100000))
	checkCompile(t, strings.Repeat("x", 120), api.ErrSyntax)
	checkCompile(t, `+"`+strings.Repeat("a", 117)+`"`, api.ErrSize)
}

func pointed(depth int, inner string) string {
	return strings.Repeat("<", depth) + inner + strings.Repeat(">", depth)
}

func TestP5Depth(t *testing.T) {
	checkAllCompile(t, api.OK,
		nest(12, "/a/"), nest(11, "</a/>"), nest(11, "(/a/~/b/)"), nest(11, "(/a/)*"), nest(11, "/a/|(/b/)"), nest(11, "(/a/)(/b/)"), nest(10, "(/a/~(/b/))"),
		"<"+nest(11, "/a/")+">", "/"+nest(12, "a")+"/", nest(6, "/"+nest(6, "a")+"/"), "</"+nest(11, "a")+"/>", nest(11, "/(a)(b)/"), nest(5, "<"+nest(3, "/"+nest(3, "a")+"/")+">"),
		`-/`+nest(12, "a")+`/"a"`, nest(6, `-/`+nest(6, "a")+`/"a"`),
		nest(12, "/a/")+nest(12, "/b/"), nest(12, "/a/")+"|"+nest(12, "/b/"), nest(6, "/a/")+"/"+nest(12, "b")+"/",
		`+"`+strings.Repeat("(", 13)+`"`, `+"`+strings.Repeat("<", 13)+`"`, nest(12, `/\(\([a]/`), nest(12, `+"((("`), nest(12, "/<<<>/"),
	)
	checkAllCompile(t, api.ErrSyntax,
		nest(13, "/a/"), nest(12, "</a/>"), nest(12, "(/a/~/b/)"), nest(12, "(/a/)*"), nest(12, "/a/|(/b/)"), nest(12, "/a/(/b/)"), nest(11, "(/a/~(/b/))"),
		"<"+nest(12, "/a/")+">", "/"+nest(13, "a")+"/", nest(6, "/"+nest(7, "a")+"/"), nest(7, "/"+nest(6, "a")+"/"), "</"+nest(12, "a")+"/>", nest(11, "/(a)((b))/"), nest(5, "<"+nest(3, "/"+nest(4, "a")+"/")+">"),
		`-/`+nest(13, "a")+`/"a"`, nest(6, `-/`+nest(7, "a")+`/"a"`), nest(12, "/(a)/"), nest(12, "/a()/"),
		nest(12, "/a/")+nest(13, "/b/"), nest(12, "/a/")+"|"+nest(13, "/b/"),
	)
	checkCompile(t, pointed(12, "/a/"), api.ErrType)
	checkCompile(t, pointed(13, "/a/"), api.ErrSyntax)
}

func TestP5Size(t *testing.T) {
	row := func(length int) string { return strings.Repeat("a", length) }
	for _, c := range []struct{ full, more string }{
		{"/" + row(24) + "/", "/" + row(25) + "/"},
		{"/" + strings.Repeat(".", 24) + "/", "/" + strings.Repeat(".", 25) + "/"},
		{"/" + strings.Repeat("[ab]", 24) + "/", "/" + strings.Repeat("[ab]", 25) + "/"},
		{"/" + strings.Repeat(`\*`, 24) + "/", "/" + strings.Repeat(`\*`, 25) + "/"},
		{"/" + strings.Repeat("(a?)+", 20) + row(4) + "/", "/" + strings.Repeat("(a?)+", 20) + row(5) + "/"},
		{`+"` + row(24) + `"`, `+"` + row(25) + `"`},
		{`+"` + strings.Repeat(`\`, 24) + `"`, `+"` + strings.Repeat(`\`, 25) + `"`},
		{`+"` + strings.Repeat(" ", 24) + `"`, `+"` + strings.Repeat(" ", 25) + `"`},
		{`-/` + row(12) + `/"` + row(12) + `"`, `-/` + row(12) + `/"` + row(13) + `"`},
		{`-/a*/"` + row(23) + `"`, `-/a*/"` + row(24) + `"`},
		{"/" + row(23) + "/*", "/" + row(24) + "/*"},
		{"(/" + row(23) + "/)*", "(/" + row(24) + "/)*"},
		{"(/" + row(11) + "/~/" + row(12) + "/)*", "(/" + row(12) + "/~/" + row(12) + "/)*"},
		{"</" + row(23) + "/>", "</" + row(24) + "/>"},
		{"(/a/*/" + strings.Repeat("b", 21) + "/)*", "(/a/*/" + strings.Repeat("b", 22) + "/)*"},
		{"<</a/>/" + strings.Repeat("b", 21) + "/>", "<</a/>/" + strings.Repeat("b", 22) + "/>"},
		{"/" + row(12) + "//" + row(12) + "/", "/" + row(12) + "//" + row(13) + "/"},
		{"/" + row(12) + "/|/" + row(11) + "b/", "/" + row(12) + "/|/" + row(12) + "b/"},
		{"(/" + row(12) + "/~/" + row(12) + "/)", "(/" + row(12) + "/~/" + row(13) + "/)"},
		{`/` + row(8) + `/+"` + row(8) + `"-/` + row(4) + `/"` + row(4) + `"`, `/` + row(8) + `/+"` + row(8) + `"-/` + row(4) + `/"` + row(4) + `"/a/`},
		{nest(12, "/"+row(24)+"/"), nest(12, "/"+row(24)+"/+\"a\"")},
	} {
		checkCompile(t, c.full, api.OK)
		checkCompile(t, c.more, api.ErrSize)
	}
}

func TestP5OrderOfErrors(t *testing.T) {
	great := "/" + strings.Repeat("a", 25) + "/"
	checkAllCompile(t, api.ErrLong, strings.Repeat("(", 121), strings.Repeat("a", 121), "/"+strings.Repeat("a", 119)+"/", "/a*//a*/"+strings.Repeat("//", 57))
	checkAllCompile(t, api.ErrSyntax, great+")", "("+great, great+"*x", great+nest(13, "//"), nest(13, great), "/a*//a*/)", "/a*//a*/|", `-/a/"b`, `-/a/"b"*`, nest(13, "/a?/*"), great+"/a*//a*/|")
	checkAllCompile(t, api.ErrSize, great+great, "/a*//a*/"+great, great+"/a*//a*/", "("+great+"|"+great+")", `-/a/"b"`+great, "("+great+`|+"")*`, pointed(12, "/"+strings.Repeat("a", 13)+"/"))
	checkCompile(t, pointed(12, "/"+strings.Repeat("a", 12)+"/"), api.ErrType)
}
