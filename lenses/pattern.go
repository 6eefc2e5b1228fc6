// Package lenses: programs that turn texts both ways: see DOC.md.
package lenses

import (
	"lenses/api"
	"lenses/patterns"
)

// Match tells whether a text is one of a pattern (P3).
func Match(pattern string, text string) (bool, api.Errno) {
	if len(text) > api.MaxText {
		return false, api.ErrLong
	}
	p, err := patterns.Read(pattern)
	if err != nil {
		return false, errno(err)
	}
	return patterns.NewNet(p).Matches(text), api.OK
}

// Once tells whether no text can be cut in two ways into one of a and one of b (P4).
func Once(a string, b string) (bool, api.Errno) {
	return askBoth(a, b, patterns.Once)
}

// Apart tells whether no text is one of both (P4).
func Apart(a string, b string) (bool, api.Errno) {
	return askBoth(a, b, patterns.Apart)
}

// askBoth reads b only behind a: whatever is wrong with a is told first.
func askBoth(a, b string, ask func(a, b *patterns.Net) bool) (bool, api.Errno) {
	first, err := patterns.Read(a)
	if err != nil {
		return false, errno(err)
	}
	second, err := patterns.Read(b)
	if err != nil {
		return false, errno(err)
	}
	return ask(patterns.NewNet(first), patterns.NewNet(second)), api.OK
}
