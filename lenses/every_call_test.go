package lenses_test

import (
	"strings"
	"sync"
	"testing"

	"lenses/api"
	"lenses/lenses"
)

// oddTexts are texts at which a call might go wrong: bytes that are no signs, cut-off and deeply nested patterns, long texts.
func oddTexts() []string {
	out := []string{
		"", "a", "a*", "(", ")", "[", "[a-", `\`, "|", "é", "\xff\xfe", "\x00", "/a/", `-/a/"b"`, "<", "(a~", api.Commas, api.Equals,
		"//", "/a/*", `-/a*/"a"`, `+"a"`, "(/a/~/b/)", "</a/>", "/a/|/b/", "/a*//a*/", "(/a/~", `+"`, `-/a/"`, "/", "/a/**", "-", "+", "~", "*",
		nest(12, "/a/"), nest(13, "/a/"), pointed(12, "/a/"), strings.Repeat("//", 60), strings.Repeat("/", 120), strings.Repeat("<", 120), strings.Repeat("<", 100000), strings.Repeat("/a/|", 29) + "/b/",
		`+"` + strings.Repeat("a", 24) + `"`, `+"` + strings.Repeat("a", 117) + `"`, "/" + strings.Repeat("a?", 24) + "/", "/" + strings.Repeat("a", 118) + "/",
		strings.Repeat("(", 120), strings.Repeat("(", 121), strings.Repeat("[", 120), strings.Repeat("\\", 119),
		strings.Repeat("a", 24), strings.Repeat("a", 25), strings.Repeat("a", 60), strings.Repeat("a", 61),
		nest(12, ""), nest(13, ""), nest(12, "a*"), strings.Repeat("a", 100000), strings.Repeat("(", 100000),
	}
	for i := range 256 {
		out = append(out, string([]byte{byte(i)}), string([]byte{'a', byte(i), 'a'}))
	}
	return out
}

func TestP1NoPanicAndNothingBesideAnError(t *testing.T) {
	texts := oddTexts()
	for _, a := range texts {
		for _, b := range texts {
			if got, err := lenses.Match(a, b); got && err != api.OK {
				t.Errorf("Match(%q, %q) = %v, %d", a, b, got, err)
			}
			if got, err := lenses.Once(a, b); got && err != api.OK {
				t.Errorf("Once(%q, %q) = %v, %d", a, b, got, err)
			}
			if got, err := lenses.Apart(a, b); got && err != api.OK {
				t.Errorf("Apart(%q, %q) = %v, %d", a, b, got, err)
			}
		}
	}
}

// A Lens is asked at every text; what Compile answers with an error is asked too, and has no texts.
func TestP1ProgramsAndTheirTexts(t *testing.T) {
	texts := oddTexts()
	for _, program := range texts {
		l, err := lenses.Compile(program)
		if (l == nil) != (err != api.OK) {
			t.Errorf("Compile(%q) = %v, %d", program, l, err)
		}
		for _, text := range texts {
			source, view := l.IsSource(text), l.IsView(text)
			if (source || view) && (l == nil || len(text) > 60) {
				t.Errorf("%q: IsSource(%q) = %v, IsView %v", program, text, source, view)
			}
			checkTurned(t, program, l, text, source, view)
		}
	}
	none := new(lenses.Lens)
	checkKind(t, "none", none, "", false, false)
	checkTurned(t, "none", none, "", false, false)
	checkWritten(t, "none", none, "", "")
}

// Each text is put into some others and some others into it; each program converts to others and from them.
func TestP1PutAndConvert(t *testing.T) {
	texts := oddTexts()
	var made []*lenses.Lens
	for _, program := range texts {
		l, _ := lenses.Compile(program)
		others := []string{"", "a", "aa", "ab", "ba", "a,1;", "a=1!", "b2a1", "\x00", strings.Repeat("a", 60), strings.Repeat("a", 61)}
		for _, text := range texts {
			for _, other := range append(others, text) {
				checkWritten(t, program, l, text, other)
				checkWritten(t, program, l, other, text)
			}
			if t.Failed() {
				return
			}
		}
		if l != nil {
			made = append(made, l)
		}
	}
	made = append(made, nil, new(lenses.Lens))
	for _, from := range made {
		for _, to := range made {
			for _, text := range texts {
				got, err := lenses.Convert(from, to, text)
				if source := from.IsSource(text); source == (err == api.ErrSource) || err != api.OK && (got != "" || source && err != api.ErrView) {
					t.Errorf("Convert(%q) = %q, %d", text, got, err)
				}
			}
		}
	}
}

// Programs for whose types much is to be searched, and texts that could be read in many ways.
func TestP1GreatProgramsEnd(t *testing.T) {
	wide := "(" + strings.Repeat("a|", 10) + "a)*"
	checkAllCompile(t, api.OK, "/"+wide+"b//"+wide+"b/", "/"+wide+"b/|/"+wide+"c/", "(/"+wide+"b/)*", "</"+wide+"b/>", "(/"+wide+"b/~/"+wide+"c/)", "("+strings.Repeat("//", 59)+")")
	checkAllCompile(t, api.ErrType, "/"+wide+"b?//"+wide+"b/", "/"+wide+"b?/|/"+wide+"c?/", "(/"+wide+"/)*", "("+strings.Repeat("//", 57)+")*", "//"+strings.Repeat("|//", 39))
	l := mustCompile(t, "</(a|b)*"+strings.Repeat("(a?|b?)", 8)+"c/>")
	checkKind(t, "many ways", l, strings.Repeat("a", 59)+"c", true, true)
	checkKind(t, "many ways", l, strings.Repeat("a", 60), false, false)
}

// Texts for whose cutting many places are to be tried, by parts within parts.
func TestP1GreatCutsEnd(t *testing.T) {
	long := strings.Repeat("a", 59) + "c"
	for _, program := range []string{
		"</(a|b)*" + strings.Repeat("(a?|b?)", 8) + "c/>", "/a*/" + strings.Repeat("//", 50) + "/c/", strings.Repeat("//", 55) + "/a*c/", "((/a/)*///c/)*",
		"<(/a/)*/c/>", nest(10, "(/a*/~/c/)") + "*", "(/a*/" + strings.Repeat("//", 40) + "/c/)*", "((/a/)*/b?/)(/c/)*", nest(6, "</a*b?c/>"),
	} {
		l := mustCompile(t, program)
		got, err := l.Get(long)
		if err != api.OK || len(got) != 60 {
			t.Errorf("%q: Get(%q) = %q, %d", program, long, got, err)
		}
		checkCreate(t, program, l, got, long)
		checkPut(t, program, l, got, long, long)
	}
	checkTurns(t,
		turnsOf{strings.Repeat("//", 60), []oracleTurn{{"", ""}}, []oracleTurn{{"", ""}}},
		turnsOf{strings.Repeat(`+""`, 40), []oracleTurn{{"", ""}}, []oracleTurn{{"", ""}}},
		turnsOf{"/" + strings.Join(strings.Split("abcdefghijklmnopqrst", ""), "*//") + "*/", []oracleTurn{{"acet", "acet"}}, []oracleTurn{{"ttt", "ttt"}}},
	)
}

// Views that are put into sources by repeats within repeats, and by unions within unions.
func TestP1GreatPutsEnd(t *testing.T) {
	byKeys := strings.Repeat("<", 12) + "/" + strings.Join(strings.Split("abcdefghijkl", ""), "/>/") + "/>"
	inRounds := strings.Repeat("(", 11) + "/" + strings.Join(strings.Split("abcdefghijk", ""), "/)*/") + "/)*"
	for _, program := range []string{byKeys, inRounds} {
		l := mustCompile(t, program)
		long, short := strings.Repeat("a", 49)+"bcdefghijkl", strings.Repeat("bcdefghijkl", 5)
		if program == inRounds {
			long, short = strings.Repeat("a", 50)+"bcdefghijk", strings.Repeat("bcdefghijk", 6)
		}
		checkPut(t, program, l, long, long, long)
		checkPut(t, program, l, short, long, short)
		checkPut(t, program, l, long, short, long)
	}
	sides := "/" + strings.Join(strings.Split("abcdefghijklmnopqrstuvw", ""), "/|/") + "/"
	for _, program := range []string{"(" + sides + ")*", "<" + sides + ">"} {
		l := mustCompile(t, program)
		checkPut(t, program, l, strings.Repeat("w", 60), strings.Repeat("v", 60), strings.Repeat("w", 60))
		checkPut(t, program, l, strings.Repeat("abcdefvuw", 6), strings.Repeat("wvujihg", 6), strings.Repeat("abcdefvuw", 6))
	}
}

// Repeats within repeats are where a search that tries one way after another would not end in a lifetime.
func TestP1RepeatsWithinRepeatsEnd(t *testing.T) {
	text := strings.Repeat("a", 59)
	for _, mark := range []string{"*", "+"} {
		nested := strings.Repeat("(", 12) + "a" + strings.Repeat(mark+")", 12) + mark
		checkMatch(t, nested, text+"a", true, api.OK)
		checkMatch(t, nested, text+"b", false, api.OK)
		wide := "(" + strings.Repeat("(a"+mark+")"+mark, 18) + ")" + mark
		checkMatch(t, wide, text+"a", true, api.OK)
		checkMatch(t, wide, text+"b", false, api.OK)
	}
	checkMatch(t, strings.Repeat("a?", 24), strings.Repeat("a", 24), true, api.OK)
	checkMatch(t, strings.Repeat("a?", 24), strings.Repeat("a", 25), false, api.OK)
	checkMatch(t, "(a|aa|aaa|a*)*b", text+"b", true, api.OK)
	checkMatch(t, "(a|aa|aaa|a*)*b", text+"a", false, api.OK)
}

// Wide repeats are where a search over sets of places, or over texts, would not end in a lifetime.
func TestP1WideSearchesEnd(t *testing.T) {
	wide := "(" + strings.Repeat("a|", 22) + "a)*"
	checkOnce(t, wide+"b", wide+"b", true, api.OK)
	checkOnce(t, wide+"b?", wide+"b", false, api.OK)
	checkApart(t, wide+"b", wide+"c", true, api.OK)
	checkApart(t, wide+"b", wide+"b", false, api.OK)
	lateOne := "(a|b)*a" + strings.Repeat("(a|b)", 10)
	lateTwo := "(a|b)*b" + strings.Repeat("(a|b)", 10)
	checkApart(t, lateOne, lateTwo, true, api.OK)
	checkOnce(t, lateOne, lateTwo, false, api.OK)
	checkOnce(t, lateOne+"c", lateTwo, true, api.OK)
}

type answer struct {
	yes  bool
	text string
	err  api.Errno
}

// answersOfAll asks each call that answers yes or no, at each pair.
func answersOfAll(firsts, seconds []string) []answer {
	var out []answer
	for _, ask := range []func(string, string) (bool, api.Errno){lenses.Match, lenses.Once, lenses.Apart} {
		for _, a := range firsts {
			for _, b := range seconds {
				yes, err := ask(strings.Clone(a), strings.Clone(b))
				out = append(out, answer{yes: yes, err: err})
			}
		}
	}
	return out
}

// answersOfLens asks a Lens at each text.
func answersOfLens(l *lenses.Lens, texts []string) []answer {
	var out []answer
	for _, text := range texts {
		out = append(out, answer{yes: l.IsSource(strings.Clone(text))}, answer{yes: l.IsView(strings.Clone(text))})
		got, err := l.Get(strings.Clone(text))
		out = append(out, answer{text: got, err: err})
		made, err := l.Create(strings.Clone(text))
		out = append(out, answer{text: made, err: err})
		for _, other := range texts {
			put, err := l.Put(strings.Clone(text), strings.Clone(other))
			out = append(out, answer{text: put, err: err})
		}
	}
	return out
}

// answersOfConvert asks from every program to every other.
func answersOfConvert(all []*lenses.Lens, texts []string) []answer {
	var out []answer
	for _, from := range all {
		for _, to := range all {
			for _, text := range texts {
				got, err := lenses.Convert(from, to, strings.Clone(text))
				out = append(out, answer{text: got, err: err})
			}
		}
	}
	return out
}

// checkSame asks again and again, in several goroutines at a time.
func checkSame(t *testing.T, want []answer, ask func() []answer) {
	t.Helper()
	var group sync.WaitGroup
	for range 8 {
		group.Add(1)
		go func() {
			defer group.Done()
			for range 20 {
				for i, got := range ask() {
					if got != want[i] {
						t.Errorf("answer %d changed: %v, then %v", i, want[i], got)
					}
				}
			}
		}()
	}
	group.Wait()
}

// Calls that went before, calls of another goroutine and the memory in which a text lies must leave no trace.
func TestP2AnswersHangOnArgumentsAlone(t *testing.T) {
	firsts := []string{"a*", "(", "(ab)*", nest(13, ""), "[a-z]+", "[b-a]", strings.Repeat("a", 25), "a|", nest(12, "a"), ".b"}
	seconds := []string{"", "a", "ab", "abab", "a*|b", "\x00", strings.Repeat("a", 60), strings.Repeat("a", 61)}
	ask := func() []answer { return answersOfAll(firsts, seconds) }
	checkSame(t, ask(), ask)
}

// p2Programs are some of every kind, and some that are none.
func p2Programs() []string {
	return []string{
		"/a/*", api.Commas, api.Equals, "(/a/~/b/)", `-/a*/"a"/b/`, "/a*//a*/", `+"a"`, "(", "/a|ab/|/b/", "</ab/>", `/a/-/b?/""|/a/-/,/","`, `</a/-/b/"b"+";">`,
		`</[a-z]/-/[0-9]*/"0">`, nest(13, "/a/"), `-/a/"b"`, "/" + strings.Repeat("a", 25) + "/",
	}
}

func p2Texts() []string {
	return []string{"", "a", "ab", "ba", "aab", "abab", "b1a2b3", "a,1;", "b,1;a,2;b,3;", "a1", "b5b6b7a8", "a=1!", "\x00", strings.Repeat("a", 60), strings.Repeat("a", 61)}
}

// compiled has nothing in the place of what is no program.
func compiled(programs []string) []*lenses.Lens {
	var out []*lenses.Lens
	for _, program := range programs {
		l, _ := lenses.Compile(strings.Clone(program))
		out = append(out, l)
	}
	return out
}

// A Lens that was kept, while others are made and asked, answers as one does that is made anew.
func TestP2AnswersHangOnTheProgramAlone(t *testing.T) {
	programs, texts := p2Programs(), p2Texts()
	kept := compiled(programs)
	ask := func(all []*lenses.Lens) []answer {
		var out []answer
		for _, l := range all {
			out = append(out, answersOfLens(l, texts)...)
		}
		return append(out, answersOfConvert(all, texts)...)
	}
	askKept := func() []answer { return ask(kept) }
	askNew := func() []answer { return ask(compiled(programs)) }
	askCompile := func() []answer {
		var out []answer
		for _, program := range programs {
			l, err := lenses.Compile(strings.Clone(program))
			out = append(out, answer{yes: l != nil, err: err})
		}
		return out
	}
	want := askKept()
	checkSame(t, want, askNew)
	checkSame(t, want, askKept)
	checkSame(t, askCompile(), askCompile)
}
