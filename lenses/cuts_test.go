package lenses_test

import (
	"strings"
	"testing"

	"lenses/api"
	"lenses/lenses"
)

func checkOnce(t *testing.T, a, b string, want bool, wantErr api.Errno) {
	t.Helper()
	if got, err := lenses.Once(a, b); got != want || err != wantErr {
		t.Errorf("Once(%q, %q) = %v, %d, want %v, %d", a, b, got, err, want, wantErr)
	}
}

// checkApart asks in both orders: a text of both is one whichever is named first.
func checkApart(t *testing.T, a, b string, want bool, wantErr api.Errno) {
	t.Helper()
	for _, x := range [][2]string{{a, b}, {b, a}} {
		if got, err := lenses.Apart(x[0], x[1]); got != want || err != wantErr {
			t.Errorf("Apart(%q, %q) = %v, %d, want %v, %d", x[0], x[1], got, err, want, wantErr)
		}
	}
}

func checkWrongPair(t *testing.T, a, b string, want api.Errno) {
	t.Helper()
	checkOnce(t, a, b, false, want)
	if got, err := lenses.Apart(a, b); got || err != want {
		t.Errorf("Apart(%q, %q) = %v, %d, want false, %d", a, b, got, err, want)
	}
}

func TestP4Once(t *testing.T) {
	for _, c := range []struct {
		a, b string
		want bool
	}{
		{"", "", true}, {"a", "a", true}, {"a", "", true}, {"", "a", true},
		{"a|b", "a|b", true}, {"a?", "b?", true}, {"a?", "a?", false}, {"a?", "aa", true}, {"a?", "aa?", false},
		{"a*", "b*", true}, {"a*", "a", true}, {"a*", "a?", false}, {"a+", "a", true}, {"a+", "a+", false},
		{"a|ab", "c|bc", false}, {"a|ab", "c|bd", true}, {"ab|a", "b?c", false}, {"|a", "|a", false}, {"|a", "|b", true},
		{"|ab", "ab|", false}, {"|ab", "abc|c", false}, {"|ab", "abc|d", true},
		{"a*b", "a*b", true}, {"(a*b)*", "a*b", true}, {"(a*b)*", "a*", true}, {"(a*b)*", "a*b?", false},
		{"[a-c]*", "[d-f]*", true}, {"[a-d]*", "[d-f]*", false}, {"[a-d]*", "e[d-f]*", true},
		{".*", "[a-z0-9]+", false}, {".*", "[A-Z0-9]+", true}, {".*", `\.*`, true}, {".*", "\\\n?", true}, {".*\n?", "\n?", false},
		{"(a|b)*", "ab", true}, {"(a|b)*", "a|ab", true}, {"(a|b)*", "a|ba", false}, {"(a|b)*", "b|ab", false}, {"(a|b)*a", "b|ab", false}, {"(a|b)*b", "b|ab", true},
		{"(ab)*", "(ba)*", true}, {"(ab)*a?", "(ba)*", false}, {"(ab|a)*", "b", true}, {"(ab|a)*", "b?", false},
		{"a(a|b)", "a*|b*", true}, {"a(a|b)?", "a*|b*", false}, {"a(a|c)?", "b*", true},
	} {
		checkOnce(t, c.a, c.b, c.want, api.OK)
	}
}

// Two ways to write the same text of a are no two cuts.
func TestP4OnceCountsCutsNotWays(t *testing.T) {
	checkOnce(t, "(a|a)", "b", true, api.OK)
	checkOnce(t, "(a*)*", "b", true, api.OK)
	checkOnce(t, "(a|aa)*", "b|b", true, api.OK)
	checkOnce(t, "(a?a?)*b", "(a*a*)*", true, api.OK)
	checkOnce(t, "", "(a*)*|a", true, api.OK)
	checkOnce(t, "(|)?", "()*", true, api.OK)
}

func TestP4Apart(t *testing.T) {
	for _, c := range []struct {
		a, b string
		want bool
	}{
		{"", "", false}, {"", "a", true}, {"", "a*", false}, {"", "a+", true}, {"a?", "b?", false}, {"a?", "b", true},
		{"a*", "b*", false}, {"a+", "b*", true}, {"a+", "b+", true}, {"a|", "b|", false}, {"(a|b)*c", "(a|c)*b", true},
		{"ab", "ab", false}, {"ab", "ba", true}, {"ab", "abc", true}, {"ab", "a", true}, {"abc?", "ab", false},
		{"a*b*", "b*a*", false}, {"a+b+", "b+a+", true}, {"a*b", "ab*", false}, {"aa*b", "a*bb", true},
		{"[a-m]", "[n-z]", true}, {"[a-m]", "[m-z]", false}, {"[0-9a]", "[A-Za]", false}, {"[0-9]", "[A-Z]", true},
		{".", "[A-Z0-9]", true}, {".", "q", false}, {".", `\.`, true}, {`\.`, `\.`, false}, {"\n", "\\\n", false}, {" ", "~", true},
		{"[Z-a]", "_", false}, {"[Z-a]", "b", true}, {"`", "[Z-a]", false}, {"@", "[A-Z]", true},
		{"(aa)*", "a(aa)*", true}, {"(aa)+", "(aaa)+", false}, {".*a", ".*b", true}, {".*a.", ".*b", false},
	} {
		checkApart(t, c.a, c.b, c.want, api.OK)
	}
}

// The first text that the two share, or that can be cut in two ways, has 23 times 24 signs here: the bound on texts is not one on these.
func TestP4LongTextsCount(t *testing.T) {
	a := "(" + strings.Repeat("a", 23) + ")"
	b := "(" + strings.Repeat("a", 24) + ")"
	checkOnce(t, a+"*", b+"*", false, api.OK)
	checkOnce(t, b+"*", a+"*", false, api.OK)
	checkOnce(t, b+"*", a+"?", true, api.OK)
	checkApart(t, a+"+", b+"+", false, api.OK)
	checkApart(t, a+"*", b+"+", false, api.OK)
	checkApart(t, a+"+", b+"?", true, api.OK)
	checkApart(t, b+"*", "a(aa)*", true, api.OK)
	checkApart(t, a+"*", "a(aa)*", false, api.OK)
	checkOnce(t, "("+strings.Repeat("a", 11)+")*b?", "("+strings.Repeat("a", 13)+")*c", false, api.OK)
	checkOnce(t, "("+strings.Repeat("a", 11)+")*b", "("+strings.Repeat("a", 13)+")*c", true, api.OK)
}

func TestP4Edges(t *testing.T) {
	full := strings.Repeat("()", 60)
	checkOnce(t, full, full, true, api.OK)
	checkApart(t, full, full, false, api.OK)
	checkOnce(t, nest(12, "a"), nest(12, "a"), true, api.OK)
	checkApart(t, nest(12, "a"), nest(12, "b"), true, api.OK)
	a, b := strings.Repeat("a", 24), strings.Repeat("b", 24)
	checkOnce(t, a, a, true, api.OK)
	checkOnce(t, strings.Repeat("a?", 24), strings.Repeat("a?", 24), false, api.OK)
	checkOnce(t, strings.Repeat("a?", 24), strings.Repeat("b?", 24), true, api.OK)
	checkApart(t, a, a, false, api.OK)
	checkApart(t, a, b, true, api.OK)
	checkApart(t, a, strings.Repeat("a", 23)+"b", true, api.OK)
	checkApart(t, a, strings.Repeat(".", 24), false, api.OK)
	checkOnce(t, strings.Repeat("a?", 23)+"c?", "c?"+strings.Repeat("b?", 23), false, api.OK)
}

// wrongPatterns has patterns with each error, and with several of which the first counts.
func wrongPatterns() map[string]api.Errno {
	return map[string]api.Errno{
		strings.Repeat("|", 121): api.ErrLong, strings.Repeat("a", 121): api.ErrLong, strings.Repeat("(", 121): api.ErrLong, strings.Repeat("\x00", 100000): api.ErrLong,
		"(": api.ErrSyntax, "a**": api.ErrSyntax, "[b-a]": api.ErrSyntax, "/": api.ErrSyntax, "é": api.ErrSyntax, `\`: api.ErrSyntax,
		nest(13, "a"): api.ErrSyntax, strings.Repeat("a", 25) + ")": api.ErrSyntax,
		strings.Repeat("a", 25): api.ErrSize, strings.Repeat("a", 120): api.ErrSize, "(" + strings.Repeat(".|", 24) + "b)": api.ErrSize,
	}
}

func TestP4Errors(t *testing.T) {
	right := []string{"", "a", "a*", nest(12, "a"), strings.Repeat("()", 60), strings.Repeat("a", 24)}
	for a, want := range wrongPatterns() {
		for _, b := range right {
			checkWrongPair(t, a, b, want)
			checkWrongPair(t, b, a, want)
		}
		for b := range wrongPatterns() {
			checkWrongPair(t, a, b, want)
		}
	}
}

func checkCutsAgainstOracle(t *testing.T, a, b, alphabet string) {
	t.Helper()
	one, two := oracleCompile(oracleInner(a)), oracleCompile(oracleInner(b))
	checkOnce(t, a, b, oracleOnce(one, two, alphabet), api.OK)
	checkOnce(t, b, a, oracleOnce(two, one, alphabet), api.OK)
	checkApart(t, a, b, oracleApart(one, two, alphabet), api.OK)
}

func TestP4AllShortPairs(t *testing.T) {
	var short []string
	for _, pattern := range allWords("ab*?|", 3) {
		if oracleError(pattern) == api.OK {
			short = append(short, pattern)
		}
	}
	for i, a := range short {
		for _, b := range short[:i+1] {
			checkCutsAgainstOracle(t, a, b, "ab")
		}
	}
}

func TestP4GrownPairs(t *testing.T) {
	d := dice(2)
	for range 3000 {
		a, b := d.pattern(2), d.pattern(2)
		if oracleError(a) == api.OK && oracleError(b) == api.OK {
			checkCutsAgainstOracle(t, a, b, "abcd")
		}
	}
}

// If a text is one of two patterns, or cut in two ways, by what Match says, then it is so by Once and Apart as well.
func TestP4AgreesWithMatch(t *testing.T) {
	d := dice(3)
	texts := allWords("abc", 4)
	for range 300 {
		a, b := d.pattern(2), d.pattern(2)
		once, err := lenses.Once(a, b)
		apart, _ := lenses.Apart(a, b)
		if err != api.OK {
			continue
		}
		for _, text := range texts {
			cuts := 0
			for i := range len(text) + 1 {
				left, _ := lenses.Match(a, text[:i])
				right, _ := lenses.Match(b, text[i:])
				if left && right {
					cuts++
				}
			}
			inA, _ := lenses.Match(a, text)
			inB, _ := lenses.Match(b, text)
			if once && cuts > 1 || apart && inA && inB {
				t.Errorf("of %q and %q: Once %v, Apart %v, but there is %q", a, b, once, apart, text)
			}
		}
	}
}
