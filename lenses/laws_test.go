package lenses_test

import (
	"strings"
	"testing"

	"lenses/api"
	"lenses/lenses"
)

// lawPrograms has one of every kind of part at least, and parts within parts; their texts are of the signs a, b, 1 and ;.
func lawPrograms() []string {
	return []string{
		"/(a|b)*/", "//", `-/a*/"aa"`, `+"a"`, `+"b"/a*/-/1*/"1"`, `/a+/-/1*/"1"/b?/`, "(/a*/~/b*/)", `(/a|ab/-/;+/";"~/b?1/)`,
		`/a/-/1/"1"|/[ab]/-/;+/";"`, `/b/-/;*/";"|/[ab]/-/1+/"1"|/[ab]+/-/a;/"a;"`, `-/1+/"1"|-/;+/";"`,
		`(/[ab]/-/;*/";")*`, `</[ab]/-/;*/";">`, `</[ab]*1/-/;*/";">`, `<(/[ab]/~/1*/-/;*/";")>`, `<-/1*/"1"/[ab]/>`, `<+"-"/[ab]/-/1*/"">`,
		`</[ab]/-/;/";"|/1/-/;*/"">`, `(</[ab]/-/1?/"1">/;/)*`, `<</[ab]/-/1?/"1">/;/>`, `((/a/-/1*/"")*/b/-/;*/";")*`, api.Commas, api.Equals,
	}
}

// checkLawsOfTexts asks P13 of all sources and views among some texts. It answers how many of both there were.
func checkLawsOfTexts(t *testing.T, program string, texts []string) (int, int) {
	t.Helper()
	l := mustCompile(t, program)
	var sources, views []string
	for _, text := range texts {
		if l.IsSource(text) {
			sources = append(sources, text)
			checkWrittenBack(t, program, l, text)
		}
		if l.IsView(text) {
			views = append(views, text)
			checkCreatedIsReadAgain(t, program, l, text)
		}
	}
	for _, source := range sources {
		for _, view := range views {
			checkWritten(t, program, l, view, source)
		}
	}
	return len(sources), len(views)
}

func checkCreatedIsReadAgain(t *testing.T, program string, l *lenses.Lens, view string) {
	t.Helper()
	source, err := l.Create(view)
	if err != api.OK {
		t.Errorf("%q: Create(%q) = %q, %d", program, view, source, err)
	}
	if len(source) <= 60 {
		checkGet(t, program, l, source, view)
	}
}

func TestP13AllShortTexts(t *testing.T) {
	texts := append(allWords("ab1;", 4), "-a", "-a-b", "-b-b-a")
	for _, program := range lawPrograms() {
		if sources, views := checkLawsOfTexts(t, program, texts); sources == 0 || views == 0 {
			t.Errorf("%q: there were %d sources and %d views", program, sources, views)
		}
	}
}

func TestP13GivenPrograms(t *testing.T) {
	commas := []string{"a,1;", "b,22;", "ab,1;", "a,3;", "z,0;"}
	equals := []string{"a=1!", "b =22!!", "ab  = 1!", "a= 3!!!", "z=0!"}
	views := []string{"a1", "b22", "ab1", "a3", "z0"}
	for program, pieces := range map[string][]string{api.Commas: append(commas, views...), api.Equals: append(equals, views...)} {
		texts := []string{""}
		for _, one := range pieces {
			for _, two := range append(pieces, "") {
				for _, three := range append(pieces, "") {
					texts = append(texts, one+two+three)
				}
			}
		}
		checkLawsOfTexts(t, program, texts)
	}
}

// Sources and views of 60 bytes and about, and answers that are longer.
func TestP13LongTexts(t *testing.T) {
	var texts []string
	for _, times := range []int{0, 1, 29, 30, 31, 59, 60, 61} {
		for _, piece := range []string{"a", "b", "a;", "b1", "ab", "ba;", "1", "-a", "a,1;", "a1", "a=1!"} {
			text := strings.Repeat(piece, times)
			texts = append(texts, text, text+"b", text+"a;")
		}
	}
	for _, program := range lawPrograms() {
		checkLawsOfTexts(t, program, texts)
	}
}
