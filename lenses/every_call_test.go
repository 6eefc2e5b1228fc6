package lenses_test

import (
	"strings"
	"sync"
	"testing"

	"lenses/api"
	"lenses/lenses"
)

// oddTexts are texts at which a call might go wrong: bytes that are no signs, cut-off and deeply nested patterns, long texts.
func oddTexts() []string {
	out := []string{
		"", "a", "a*", "(", ")", "[", "[a-", `\`, "|", "é", "\xff\xfe", "\x00", "/a/", `-/a/"b"`, "<", "(a~", api.Commas, api.Equals,
		strings.Repeat("(", 120), strings.Repeat("(", 121), strings.Repeat("[", 120), strings.Repeat("\\", 119),
		strings.Repeat("a", 24), strings.Repeat("a", 25), strings.Repeat("a", 60), strings.Repeat("a", 61),
		nest(12, ""), nest(13, ""), nest(12, "a*"), strings.Repeat("a", 100000), strings.Repeat("(", 100000),
	}
	for i := range 256 {
		out = append(out, string([]byte{byte(i)}), string([]byte{'a', byte(i), 'a'}))
	}
	return out
}

func TestP1NoPanicAndNothingBesideAnError(t *testing.T) {
	texts := oddTexts()
	for _, a := range texts {
		for _, b := range texts {
			if got, err := lenses.Match(a, b); got && err != api.OK {
				t.Errorf("Match(%q, %q) = %v, %d", a, b, got, err)
			}
			if got, err := lenses.Once(a, b); got && err != api.OK {
				t.Errorf("Once(%q, %q) = %v, %d", a, b, got, err)
			}
			if got, err := lenses.Apart(a, b); got && err != api.OK {
				t.Errorf("Apart(%q, %q) = %v, %d", a, b, got, err)
			}
		}
		if got, err := lenses.Compile(a); got != nil && err != api.OK {
			t.Errorf("Compile(%q) = %v, %d", a, got, err)
		}
	}
}

// Repeats within repeats are where a search that tries one way after another would not end in a lifetime.
func TestP1RepeatsWithinRepeatsEnd(t *testing.T) {
	text := strings.Repeat("a", 59)
	for _, mark := range []string{"*", "+"} {
		nested := strings.Repeat("(", 12) + "a" + strings.Repeat(mark+")", 12) + mark
		checkMatch(t, nested, text+"a", true, api.OK)
		checkMatch(t, nested, text+"b", false, api.OK)
		wide := "(" + strings.Repeat("(a"+mark+")"+mark, 18) + ")" + mark
		checkMatch(t, wide, text+"a", true, api.OK)
		checkMatch(t, wide, text+"b", false, api.OK)
	}
	checkMatch(t, strings.Repeat("a?", 24), strings.Repeat("a", 24), true, api.OK)
	checkMatch(t, strings.Repeat("a?", 24), strings.Repeat("a", 25), false, api.OK)
	checkMatch(t, "(a|aa|aaa|a*)*b", text+"b", true, api.OK)
	checkMatch(t, "(a|aa|aaa|a*)*b", text+"a", false, api.OK)
}

// Wide repeats are where a search over sets of places, or over texts, would not end in a lifetime.
func TestP1WideSearchesEnd(t *testing.T) {
	wide := "(" + strings.Repeat("a|", 22) + "a)*"
	checkOnce(t, wide+"b", wide+"b", true, api.OK)
	checkOnce(t, wide+"b?", wide+"b", false, api.OK)
	checkApart(t, wide+"b", wide+"c", true, api.OK)
	checkApart(t, wide+"b", wide+"b", false, api.OK)
	lateOne := "(a|b)*a" + strings.Repeat("(a|b)", 10)
	lateTwo := "(a|b)*b" + strings.Repeat("(a|b)", 10)
	checkApart(t, lateOne, lateTwo, true, api.OK)
	checkOnce(t, lateOne, lateTwo, false, api.OK)
	checkOnce(t, lateOne+"c", lateTwo, true, api.OK)
}

type answer struct {
	yes bool
	err api.Errno
}

// answersOfAll asks each call that answers yes or no, at each pair.
func answersOfAll(firsts, seconds []string) []answer {
	var out []answer
	for _, ask := range []func(string, string) (bool, api.Errno){lenses.Match, lenses.Once, lenses.Apart} {
		for _, a := range firsts {
			for _, b := range seconds {
				yes, err := ask(strings.Clone(a), strings.Clone(b))
				out = append(out, answer{yes, err})
			}
		}
	}
	return out
}

// Calls that went before, calls of another goroutine and the memory in which a text lies must leave no trace.
func TestP2AnswersHangOnArgumentsAlone(t *testing.T) {
	firsts := []string{"a*", "(", "(ab)*", nest(13, ""), "[a-z]+", "[b-a]", strings.Repeat("a", 25), "a|", nest(12, "a"), ".b"}
	seconds := []string{"", "a", "ab", "abab", "a*|b", "\x00", strings.Repeat("a", 60), strings.Repeat("a", 61)}
	want := answersOfAll(firsts, seconds)
	var group sync.WaitGroup
	for range 8 {
		group.Add(1)
		go func() {
			defer group.Done()
			for range 20 {
				for i, got := range answersOfAll(firsts, seconds) {
					if got != want[i] {
						t.Errorf("answer %d changed: %v, then %v", i, want[i], got)
					}
				}
			}
		}()
	}
	group.Wait()
}
