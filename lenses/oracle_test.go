package lenses_test

import (
	"regexp"
	"strings"

	"lenses/api"
)

// A second way to the answers of Match, over the library's regexp, which the program itself may not use.

var (
	oracleThing   = regexp.MustCompile(`\\[ -~\n]|\[(?:[a-zA-Z0-9](?:-[a-zA-Z0-9])?)+\]|[^()\[\]*+?|/"\\]`)
	oracleRange   = regexp.MustCompile(`[a-zA-Z0-9]-[a-zA-Z0-9]`)
	oracleBracket = regexp.MustCompile(`\((?:x[*+?]?|\|)*\)`)
	oracleRow     = regexp.MustCompile(`^(?:x[*+?]?|\|)*$`)
)

// oracleError puts an x in place of each thing, then in place of each innermost bracket, for as long as there is one: as many rounds as there are brackets within brackets.
func oracleError(pattern string) api.Errno {
	if len(pattern) > 120 {
		return api.ErrLong
	}
	for _, b := range []byte(pattern) {
		if b != '\n' && (b < 32 || b > 126) {
			return api.ErrSyntax
		}
	}
	size := 0
	greater := false
	rest := oracleThing.ReplaceAllStringFunc(pattern, func(thing string) string {
		size++
		if thing[0] == '[' {
			for _, pair := range oracleRange.FindAllString(thing, -1) {
				greater = greater || pair[0] > pair[2]
			}
		}
		return "x"
	})
	depth := 0
	for oracleBracket.MatchString(rest) {
		rest = oracleBracket.ReplaceAllString(rest, "x")
		depth++
	}
	switch {
	case greater || depth > 12 || !oracleRow.MatchString(rest):
		return api.ErrSyntax
	case size > 24:
		return api.ErrSize
	}
	return api.OK
}

// oracleInner tells a pattern that is one in the library's way of writing.
func oracleInner(pattern string) string {
	return oracleThing.ReplaceAllStringFunc(pattern, func(thing string) string {
		switch thing[0] {
		case '[':
			return thing
		case '.':
			return "[a-z]"
		}
		return regexp.QuoteMeta(strings.TrimPrefix(thing, `\`))
	})
}

func oracleRegexp(pattern string) *regexp.Regexp {
	return regexp.MustCompile(`\A(?:` + oracleInner(pattern) + `)\z`)
}
