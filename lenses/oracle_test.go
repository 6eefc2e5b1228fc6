package lenses_test

import (
	"regexp"
	"strings"

	"lenses/api"
)

// A second way to the answers of Match, over the library's regexp, which the program itself may not use.

var (
	oracleThing   = regexp.MustCompile(`\\[ -~\n]|\[(?:[a-zA-Z0-9](?:-[a-zA-Z0-9])?)+\]|[^()\[\]*+?|/"\\]`)
	oracleRange   = regexp.MustCompile(`[a-zA-Z0-9]-[a-zA-Z0-9]`)
	oracleBracket = regexp.MustCompile(`\((?:x[*+?]?|\|)*\)`)
	oracleRow     = regexp.MustCompile(`^(?:x[*+?]?|\|)*$`)
)

// oracleError tells what is wrong with a pattern.
func oracleError(pattern string) api.Errno {
	if len(pattern) > 120 {
		return api.ErrLong
	}
	size, depth, ok := oracleMeasure(pattern)
	switch {
	case !ok || depth > 12:
		return api.ErrSyntax
	case size > 24:
		return api.ErrSize
	}
	return api.OK
}

// oracleMeasure puts an x in place of each thing, then in place of each innermost bracket, for as long as there is one: as many rounds as there are brackets within brackets.
func oracleMeasure(pattern string) (size, depth int, ok bool) {
	if !oracleSigns(pattern) {
		return 0, 0, false
	}
	greater := false
	rest := oracleThing.ReplaceAllStringFunc(pattern, func(thing string) string {
		size++
		if thing[0] == '[' {
			for _, pair := range oracleRange.FindAllString(thing, -1) {
				greater = greater || pair[0] > pair[2]
			}
		}
		return "x"
	})
	for oracleBracket.MatchString(rest) {
		rest = oracleBracket.ReplaceAllString(rest, "x")
		depth++
	}
	return size, depth, !greater && oracleRow.MatchString(rest)
}

func oracleSigns(text string) bool {
	for _, b := range []byte(text) {
		if b != '\n' && (b < 32 || b > 126) {
			return false
		}
	}
	return true
}

// oracleInner tells a pattern that is one in the library's way of writing.
func oracleInner(pattern string) string {
	return oracleThing.ReplaceAllStringFunc(pattern, func(thing string) string {
		switch thing[0] {
		case '[':
			return thing
		case '.':
			return "[a-z]"
		}
		return regexp.QuoteMeta(strings.TrimPrefix(thing, `\`))
	})
}

func oracleRegexp(pattern string) *regexp.Regexp {
	return oracleWhole(oracleInner(pattern))
}

func oracleWhole(inner string) *regexp.Regexp {
	return regexp.MustCompile(`\A(?:` + inner + `)\z`)
}
