package lenses_test

import (
	"strings"
	"testing"

	"lenses/api"
)

func TestP6LeaveOut(t *testing.T) {
	checkAllCompile(t, api.OK, `-/a/"a"`, `-/a*/""`, `-/a*/"aaa"`, `-/a|b/"b"`, `-/\./"."`, `-/./"q"`, `-/a\*/"a*"`, `-/\\/"\"`, `-/[A-C] +/"B  "`, `-//""`, `-/|a/""`)
	checkAllCompile(t, api.ErrType, `-/a/"b"`, `-/a/""`, `-/a/"aa"`, `-//"a"`, `-/a*/"aab"`, `-/a|b/"ab"`, `-/./"."`, `-/./"Q"`, `-/\./"a"`, `-/\"/""`, `-/\"/"\"`, "-/\n/\" \"", `-/a\*/"aa"`, `-/[a-c]/"d"`)
}

func TestP6Row(t *testing.T) {
	sources := map[string]api.Errno{
		`/a*/+","-/b*/""`: api.OK, `/a*/+","-/a*/""`: api.ErrType, `/a|ab/+","-/c|bc/"c"`: api.ErrType, `/a|ab/+","-/c|bd/"c"`: api.OK,
		`-/a*/""+","/a*/`: api.ErrType, `-/a*/""+","/a/`: api.OK, `-/x?/""-/x?/""`: api.ErrType, `-/x?/""-/y?/""`: api.OK,
	}
	views := map[string]api.Errno{
		`/a*/-/,/","/b*/`: api.OK, `/a*/-/,/","/a*/`: api.ErrType, `/a|ab/-/,/","/c|bc/`: api.ErrType, `/a|ab/-/,/","/c|bd/`: api.OK,
		`/a?/-/,/","/a/`: api.OK, `/a?/-/,/","/a?/`: api.ErrType, `/a*/+"a"`: api.OK, `/a*/+"a"-/b/"b"/a*/`: api.ErrType, `+"a"/a*/`: api.OK,
	}
	both := map[string]api.Errno{
		"/a//a/": api.OK, "/a*//a/": api.OK, "/a*//a*/": api.ErrType, "/a|ab//b?c/": api.ErrType, "/a*//b*//c*/": api.OK, "/a*//b*//a*/": api.ErrType, "/a*//b+//a*/": api.OK,
		"/a/*/a/*": api.ErrType, "/a/*/b/*": api.OK, "</a/></a/>": api.ErrType, "/a/*</b/>": api.OK, "(/a/|/ab/)/b?c/": api.ErrType, "(/a/|/ab/)/c/": api.OK, "(/a/~/b*/)/b/": api.OK,
		"/a?//b?//a?/": api.ErrType, "/b//a?//a?/": api.ErrType, "/a?//a?//b/": api.ErrType, "/a?/(/b//a?/)": api.OK,
	}
	checkTable(t, sources)
	checkTable(t, views)
	checkTable(t, both)
}

func checkTable(t *testing.T, programs map[string]api.Errno) {
	t.Helper()
	for program, want := range programs {
		checkCompile(t, program, want)
	}
}

func TestP6ChangePlaces(t *testing.T) {
	sources := map[string]api.Errno{
		`(/a*/+","~-/b*/"")`: api.OK, `(/a*/+","~-/a*/"")`: api.ErrType, `(/a|ab/+","~/b?c/)`: api.ErrType,
	}
	views := map[string]api.Errno{
		`(/a*/-/,/","~/b*/)`: api.OK, `(/a*/-/,/","~/a*/)`: api.ErrType,
	}
	// The views are cut in the order of the second, then the first.
	order := map[string]api.Errno{
		`(/a|ab/-/;/";"~/b?c/)`: api.OK, `(/b?c/~/a|ab/)`: api.ErrType, `(/b?c/-/;/";"~/a|ab/)`: api.ErrType, `(/a|ab/~/b?c/)`: api.ErrType,
		"(/a/~/a*/)": api.OK, "(/b/~/a*/)/a*/": api.ErrType, "(/b/~/a*/)/b*/": api.OK, "(/b/~/a*/)/c*/": api.OK, "(/a*/~/b/)/a/": api.OK, "(/a*/~/b/)/a*/": api.ErrType,
		"/a*/(/b/~/a*/)": api.ErrType, "/a*/(/a*/~/b/)": api.ErrType, "/c*/(/a*/~/b/)": api.OK,
	}
	checkTable(t, sources)
	checkTable(t, views)
	checkTable(t, order)
}

func TestP6Union(t *testing.T) {
	checkAllCompile(t, api.OK, "/a/|/b/", "/a+/|/b*/", "/a/|/b/|/c/", "(/a/|/b/)|/c/", "/aa*b/|/a*bb/", `+"a"|/b/`, "/a//b/|/a/")
	checkAllCompile(t, api.ErrType, "/a/|/a/", "/a*/|/b*/", "/a+/|/aa/", "/a/|/b/|/a/", "/a/|/b/|/b/", "/a/|/a/|/b/", "(/a/|/b/)|/b/", `+"a"|+"b"`, `+"a"|/b*/`, "/a//b/|/ab/", "/a/*|/b/*", "(/a/~/b/)|/ab/", "/./|/q/")
	// Views may be of both sides: nothing is asked of them.
	checkAllCompile(t, api.OK, `/a/-/1/"1"|/a/-/2/"2"`, `-/1/"1"|-/2/"2"`, `/a*/-/1/"1"|/a*b*/-/2/"2"`, `+"x"/a/|+"xa"/b/|/xa/`, "(/a/~/b/)|/ba/")
}

// checkPieces asks of both kinds of repeat.
func checkPieces(t *testing.T, want api.Errno, pieces ...string) {
	t.Helper()
	for _, l := range pieces {
		checkCompile(t, "("+l+")*", want)
		checkCompile(t, "<"+l+">", want)
		if strings.HasPrefix(l, "/") && strings.HasSuffix(l, "/") && strings.Count(l, "/") == 2 {
			checkCompile(t, l+"*", want)
		}
	}
}

func TestP6Pieces(t *testing.T) {
	emptySource := []string{`+"a"`, `-//""+"a"`, `-/b?/""+"a"`}
	emptyView := []string{`-/a/"a"`, `-/a+/"a"+""`, `-/b/"b"/a?/`}
	emptyBoth := []string{"//", "/a?/", "/a*/", "/|a/", "/a/*", "</a/>", `+""`, `-/a?/""`}
	checkPieces(t, api.ErrType, emptySource...)
	checkPieces(t, api.ErrType, emptyView...)
	checkPieces(t, api.ErrType, emptyBoth...)

	checkPieces(t, api.OK, `-/a|b/"a"+"x"`, `-/a|ab|bb/"a"+"x"`, `-/[a-z]+;/"a;"+"x"`)
	checkPieces(t, api.ErrType, `-/a|aa/"a"+"x"`, `-/a|ab|ba/"a"+"x"`, `-/[a-z]+/"a"+"x"`)

	checkPieces(t, api.OK, `/a|b/-/;/";"`, `/a|ab|bb/-/;/";"`, `/[a-z]+/-/,/","/;/`, `/[a-z]+/-/,/","+";"`)
	checkPieces(t, api.ErrType, `/a|aa/-/;/";"`, `/a|ab|ba/-/;/";"`, `/[a-z]+/-/,/","`, `/a/-/1/"1"|/aa/-/2/"2"`)

	checkPieces(t, api.OK, "/a/", "/a|b/", "/a*b/", "/ab*/", "/a|ab|bb/", "/a|ba|bb/", "/.[0-9]+/", "/a//b/*", "/a/|/b/", "(/a/~/b/)")
	checkPieces(t, api.ErrType, "/a+/", "/a|aa/", "/a*b?c?/", "/a|ab|ba/", "/[a-z]+/", "/a//a/*", "/a/|/aa/", "/a/|/b/|/ab/")
}

// The first text that has two ways is longer than a text may be that is handed in.
func TestP6LongTextsCount(t *testing.T) {
	a := func(times int) string { return strings.Repeat("a", times) }
	checkTable(t, map[string]api.Errno{
		"/(" + a(11) + ")*//(" + a(12) + ")*/":          api.ErrType,
		"/(" + a(11) + ")*//(" + a(12) + ")?/":          api.OK,
		"/(" + a(7) + `)*/-/,/","/(` + a(9) + ")*/":     api.ErrType,
		"/(" + a(7) + `)*/-/,/","/b(` + a(9) + ")*/":    api.OK,
		"(/(" + a(7) + `)*/-/,/","~/(` + a(9) + ")*/)":  api.ErrType,
		"(/(" + a(7) + `)*/-/,/","~/(` + a(9) + ")*b/)": api.OK,
		"/(" + a(11) + ")+/|/(" + a(13) + ")+/":         api.ErrType,
		"/(" + a(12) + ")+/|/a(" + a(6) + ")+/":         api.OK,
	})
	tooMany := "x(" + a(7) + ")+|y|x|(" + a(9) + ")+y"
	oneWay := "x(" + a(7) + ")+|y|x|b(" + a(9) + ")+y"
	checkPieces(t, api.ErrType, "/"+tooMany+"/", "/"+tooMany+`/-/;/";"`, "-/"+tooMany+`/"x"+";"`)
	checkPieces(t, api.OK, "/"+oneWay+"/", "/"+oneWay+`/-/;/";"`, "-/"+oneWay+`/"x"+";"`)
}

// A part is found that is not well typed, wherever it stands.
func TestP6EveryPlace(t *testing.T) {
	for _, place := range []string{"X", "(X)", "X/z/", "/z/X", "/y/X/z/", "X|/z/", "/z/|X", "/y/|X|/z/", "(X~/z/)", "(/z/~X)", "(X/;/)*", "<X/;/>", "((X/;/)*~/z/)", "/y/(/z/|<X/;/>)", "(/y/~(/z/~X))/w/*"} {
		checkCompile(t, strings.ReplaceAll(place, "X", `-/a/"b"`), api.ErrType)
		checkCompile(t, strings.ReplaceAll(place, "X", `-/b/"b"`), api.OK)
		checkCompile(t, strings.ReplaceAll(place, "X", "(/a*//a*/)"), api.ErrType)
		checkCompile(t, strings.ReplaceAll(place, "X", "(/a*//b*/)"), api.OK)
		checkCompile(t, strings.ReplaceAll(place, "X", "(/a/|/a/)"), api.ErrType)
		checkCompile(t, strings.ReplaceAll(place, "X", "(/a/|/b/)"), api.OK)
		checkCompile(t, strings.ReplaceAll(place, "X", "</a?/>"), api.ErrType)
		checkCompile(t, strings.ReplaceAll(place, "X", "</a/>"), api.OK)
	}
}

func TestP6Examples(t *testing.T) {
	checkAllCompile(t, api.OK, `/[a-z]+/-/,/","/[0-9]+/`, "(/a/~/b/)", `-/x*/"xx"/a/`, api.Commas, api.Equals)
	checkAllCompile(t, api.ErrType, "/a*//a*/", "/a|ab//b?c/", "</a?/>", "(/a/|/a/)", `-/a/"b"`)
}
