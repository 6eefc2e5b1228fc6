package lenses_test

import (
	"strings"
	"testing"

	"lenses/api"
	"lenses/lenses"
)

func checkMatch(t *testing.T, pattern, text string, want bool, wantErr api.Errno) {
	t.Helper()
	if got, err := lenses.Match(pattern, text); got != want || err != wantErr {
		t.Errorf("Match(%q, %q) = %v, %d, want %v, %d", pattern, text, got, err, want, wantErr)
	}
}

func nest(depth int, inner string) string {
	return strings.Repeat("(", depth) + inner + strings.Repeat(")", depth)
}

func TestP3OrdinaryPatterns(t *testing.T) {
	for _, c := range []struct {
		pattern string
		yes, no []string
	}{
		{"", []string{""}, []string{"a", " "}},
		{"ab", []string{"ab"}, []string{"", "a", "b", "ba", "aab", "abb"}},
		{"a|b|", []string{"a", "b", ""}, []string{"ab", "|"}},
		{"|", []string{""}, []string{"|"}},
		{"()", []string{""}, []string{"()"}},
		{"(|a)b", []string{"b", "ab"}, []string{"", "a", "aab"}},
		{"ab|cd", []string{"ab", "cd"}, []string{"abd", "acd", "abcd"}},
		{"a*", []string{"", "a", "aaa"}, []string{"b", "aab", "a*"}},
		{"a+", []string{"a", "aaa"}, []string{"", "a+"}},
		{"a?", []string{"", "a"}, []string{"aa", "a?"}},
		{"ab?c", []string{"ac", "abc"}, []string{"abbc", "ab"}},
		{"(ab)+", []string{"ab", "abab"}, []string{"", "a", "aba", "abb"}},
		{"(a|b)*c", []string{"c", "abac"}, []string{"", "ab", "ca"}},
		{"(a*)+b", []string{"b", "aab"}, []string{"", "a"}},
		{"(a*b*)*", []string{"", "ba", "abba"}, []string{"c", "abc"}},
		{"(a?b)?", []string{"", "b", "ab"}, []string{"a", "bb"}},
		{"a*a", []string{"a", "aa"}, []string{"", "b"}},
		{"(a+|b?)c", []string{"c", "aac", "bc"}, []string{"abc", "bbc"}},
		{"[a-z]+(,[0-9]+)?", []string{"ab,12", "ab"}, []string{"", "ab,", ",12"}},
	} {
		for _, text := range c.yes {
			checkMatch(t, c.pattern, text, true, api.OK)
		}
		for _, text := range c.no {
			checkMatch(t, c.pattern, text, false, api.OK)
		}
	}
}

func TestP3EveryByteAsAPattern(t *testing.T) {
	for i := range 256 {
		b := string([]byte{byte(i)})
		isSign := i == 10 || i >= 32 && i <= 126
		stands := isSign && !strings.Contains(`()[]*+?/"\`, b)
		wantErr := api.ErrSyntax
		if stands {
			wantErr = api.OK
		}
		checkMatch(t, b, b, stands && b != "|" && b != ".", wantErr)
		if isSign {
			checkMatch(t, `\`+b, b, true, api.OK)
			checkMatch(t, `\`+b, "", false, api.OK)
			checkMatch(t, `\`+b, `\`+b, false, api.OK)
		} else {
			checkMatch(t, `\`+b, b, false, api.ErrSyntax)
			checkMatch(t, "a"+b, "a", false, api.ErrSyntax)
		}
	}
}

func TestP3EveryByteAsAText(t *testing.T) {
	for i := range 256 {
		b := byte(i)
		text := string([]byte{b})
		small := b >= 'a' && b <= 'z'
		digit := b >= '0' && b <= '9'
		checkMatch(t, ".", text, small, api.OK)
		checkMatch(t, "[a-z]", text, small, api.OK)
		checkMatch(t, `\.`, text, b == '.', api.OK)
		checkMatch(t, "[0-9]", text, digit, api.OK)
		checkMatch(t, "[q0-9A]", text, digit || b == 'q' || b == 'A', api.OK)
		checkMatch(t, "[0-z]", text, b >= '0' && b <= 'z', api.OK)
		checkMatch(t, "[Z-a]", text, b >= 'Z' && b <= 'a', api.OK)
		checkMatch(t, "[a-a]", text, b == 'a', api.OK)
		checkMatch(t, "[aa]", text, b == 'a', api.OK)
	}
}

func TestP3NoPatterns(t *testing.T) {
	for _, pattern := range []string{
		"(", ")", "(a", "a)", "())", "(()", ")(", "*", "+a", "?", "(*)", "(|+)", "|*", "a|?",
		"a**", "a*+", "a+?", "a??", "(a)*?", "[a]++",
		"[", "]", "[]", "[a", "[a-", "[a-]", "[-a]", "[-]", "[b-a]", "[a-Z]", "[a-9]", "[a-b-c]", "[a--c]",
		"[ ]", "[.]", "[a ]", "[a,b]", "[^a]", "[[]", "[]]", `[\]]`, `[\a]`, "[a-\\z]", "[\n]", "[a*]", "[é]", "[(]", "[a|b]",
		"/", `a/b`, `"`, `\`, `a\`, "(\\)", "\\\x7f", "\\\xff", "\\\t", "\x00", "\t", "\r", "\x7f", "\x80", "é",
	} {
		checkMatch(t, pattern, "", false, api.ErrSyntax)
		checkMatch(t, pattern, "a", false, api.ErrSyntax)
	}
}

func TestP3Length(t *testing.T) {
	long := strings.Repeat("()", 60)
	checkMatch(t, long, "", true, api.OK)
	checkMatch(t, long+"|", "", false, api.ErrLong)
	checkMatch(t, strings.Repeat("|", 119)+"a", "a", true, api.OK)
	checkMatch(t, "a*", strings.Repeat("a", 60), true, api.OK)
	checkMatch(t, "a*", strings.Repeat("a", 59)+"b", false, api.OK)
	checkMatch(t, "a*", strings.Repeat("a", 61), false, api.ErrLong)
	checkMatch(t, "a*", strings.Repeat("\x00", 61), false, api.ErrLong)
}

func TestP3Depth(t *testing.T) {
	checkMatch(t, nest(12, "a"), "a", true, api.OK)
	checkMatch(t, nest(13, "a"), "a", false, api.ErrSyntax)
	checkMatch(t, nest(12, "a")+nest(12, "b"), "ab", true, api.OK)
	checkMatch(t, nest(11, "(a)(b)"), "ab", true, api.OK)
	checkMatch(t, nest(11, "(a)((b))"), "ab", false, api.ErrSyntax)
	checkMatch(t, nest(12, `\(\)[a]`), "()a", true, api.OK)
}

func TestP3Size(t *testing.T) {
	for _, thing := range []struct{ pattern, text string }{
		{"a", "a"}, {".", "q"}, {"[a-z0-9]", "7"}, {`\*`, "*"}, {"\\\n", "\n"}, {" ", " "},
	} {
		text := strings.Repeat(thing.text, 24)
		full := strings.Repeat(thing.pattern, 24)
		if len(full) < 120 {
			checkMatch(t, full, text, true, api.OK)
			checkMatch(t, full+thing.pattern, text, false, api.ErrSize)
		}
		half := strings.Repeat(thing.pattern, 12)
		checkMatch(t, "("+half+")*|"+strings.Repeat("b", 12), text, true, api.OK)
		checkMatch(t, "("+half+")*|"+strings.Repeat("b", 13), text, false, api.ErrSize)
	}
	classes := strings.Repeat("[ab]", 24)
	checkMatch(t, classes, strings.Repeat("ab", 12), true, api.OK)
	checkMatch(t, classes+".", strings.Repeat("ab", 12), false, api.ErrSize)
	marks := strings.Repeat("(a?|)+", 16)
	checkMatch(t, marks+strings.Repeat("b", 8), "aabbbbbbbb", true, api.OK)
	checkMatch(t, marks+strings.Repeat("b", 9), "aabbbbbbbb", false, api.ErrSize)
}

func TestP3OrderOfErrors(t *testing.T) {
	longText := strings.Repeat("a", 61)
	checkMatch(t, "(", longText, false, api.ErrLong)
	checkMatch(t, strings.Repeat("a", 25), longText, false, api.ErrLong)
	checkMatch(t, strings.Repeat("(", 121), "", false, api.ErrLong)
	checkMatch(t, strings.Repeat("a", 121), "", false, api.ErrLong)
	checkMatch(t, strings.Repeat("a", 25)+"(", "", false, api.ErrSyntax)
	checkMatch(t, "["+strings.Repeat("a", 25), "", false, api.ErrSyntax)
	checkMatch(t, strings.Repeat("a", 25)+nest(13, ""), "", false, api.ErrSyntax)
	checkMatch(t, strings.Repeat("a", 25), "\x00", false, api.ErrSize)
}

// countUp makes the next word over an alphabet, and tells whether there was one of that length.
func countUp(word []int, letters int) bool {
	for i := range word {
		word[i]++
		if word[i] < letters {
			return true
		}
		word[i] = 0
	}
	return false
}

func spell(word []int, alphabet string) string {
	out := make([]byte, len(word))
	for i, n := range word {
		out[i] = alphabet[n]
	}
	return string(out)
}

func allWords(alphabet string, longest int) []string {
	var out []string
	for length := range longest + 1 {
		word := make([]int, length)
		for more := true; more; more = countUp(word, len(alphabet)) {
			out = append(out, spell(word, alphabet))
		}
	}
	return out
}

func checkAgainstOracle(t *testing.T, pattern string, texts []string) {
	t.Helper()
	want := oracleError(pattern)
	if want != api.OK {
		checkMatch(t, pattern, "", false, want)
		return
	}
	re := oracleRegexp(pattern)
	for _, text := range texts {
		checkMatch(t, pattern, text, re.MatchString(text), api.OK)
	}
}

func TestP3AllShortPatterns(t *testing.T) {
	texts := allWords("ab", 3)
	for _, pattern := range allWords("ab()*?|", 6) {
		checkAgainstOracle(t, pattern, texts)
	}
	texts = append(texts, ".", "-", "0", "\\", "/", "]", "b.", "a\n")
	for _, pattern := range allWords("ab0[]-.+\\/\n", 5) {
		checkAgainstOracle(t, pattern, texts)
	}
}

// dice is a row of numbers that is the same in every run.
type dice uint64

func (d *dice) below(n int) int {
	*d = *d*6364136223846793005 + 1442695040888963407
	return int(uint64(*d) >> 33 % uint64(n))
}

func (d *dice) pattern(depth int) string {
	out := ""
	for range d.below(4) {
		switch n := d.below(8); {
		case n < 3 && depth > 0:
			out += "(" + d.pattern(depth-1) + ")"
		case n == 3:
			out += "[a-b]"
		case n == 4:
			out += "."
		default:
			out += string("abc"[d.below(3)])
		}
		out += []string{"", "", "*", "+", "?"}[d.below(5)]
	}
	if d.below(3) == 0 {
		out += "|" + d.pattern(depth)
	}
	return out
}

func TestP3GrownPatterns(t *testing.T) {
	d := dice(1)
	texts := allWords("abc", 4)
	for range 20 {
		long := make([]byte, 5+d.below(56))
		for i := range long {
			long[i] = "aabc"[d.below(4)]
		}
		texts = append(texts, string(long))
	}
	for range 5000 {
		checkAgainstOracle(t, d.pattern(5), texts)
	}
}
