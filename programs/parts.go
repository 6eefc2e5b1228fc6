package programs

import (
	"strings"

	"lenses/patterns"
)

// Part is a part of a program, or a whole one. It is well typed: what is not is never made.
type Part struct {
	types
	// Get reads the view out of a text that must be a source, and Create makes a source for one that must be a view: texts are cut in the one way that these have.
	Get    func(source string) string
	Create func(view string) string
}

func copied(p patterns.Pattern) *Part {
	same := textsOf(p)
	return &Part{types: types{sources: same, views: same}, Get: unchanged, Create: unchanged}
}

func unchanged(text string) string { return text }

func leftOut(p patterns.Pattern, word string) *Part {
	kinds := types{sources: textsOf(p), views: textsOf(patterns.Word(""))}
	need(kinds.IsSource(word))
	return &Part{types: kinds, Get: always(""), Create: always(word)}
}

func putIn(word string) *Part {
	kinds := types{sources: textsOf(patterns.Word("")), views: textsOf(patterns.Word(word))}
	return &Part{types: kinds, Get: always(word), Create: always("")}
}

func always(word string) func(string) string {
	return func(string) string { return word }
}

func inRow(first, rest *Part) *Part {
	return &Part{
		types: types{
			sources: behind(first.sources, rest.sources),
			views:   behind(first.views, rest.views),
		},
		Get: func(source string) string {
			one, other := cut(first.sources, rest.sources, source)
			return first.Get(one) + rest.Get(other)
		},
		Create: func(view string) string {
			one, other := cut(first.views, rest.views, view)
			return first.Create(one) + rest.Create(other)
		},
	}
}

func changingPlaces(first, second *Part) *Part {
	return &Part{
		types: types{
			sources: behind(first.sources, second.sources),
			views:   behind(second.views, first.views),
		},
		Get: func(source string) string {
			one, other := cut(first.sources, second.sources, source)
			return second.Get(other) + first.Get(one)
		},
		Create: func(view string) string {
			other, one := cut(second.views, first.views, view)
			return first.Create(one) + second.Create(other)
		},
	}
}

// united asks nothing of the views: the source tells the side, or else the first side goes ahead.
func united(first, rest *Part) *Part {
	need(patterns.Apart(first.sources.Net, rest.sources.Net))
	return &Part{
		types: types{
			sources: either(first.sources, rest.sources),
			views:   either(first.views, rest.views),
		},
		Get: func(source string) string {
			if first.IsSource(source) {
				return first.Get(source)
			}
			return rest.Get(source)
		},
		Create: func(view string) string {
			if first.IsView(view) {
				return first.Create(view)
			}
			return rest.Create(view)
		},
	}
}

func repeated(piece *Part) *Part {
	all := types{sources: many(piece.sources), views: many(piece.views)}
	return &Part{
		types: all,
		Get: func(source string) string {
			return ofEach(pieces(piece.sources, all.sources, source), piece.Get)
		},
		Create: func(view string) string {
			return ofEach(pieces(piece.views, all.views, view), piece.Create)
		},
	}
}

// ofEach puts what turn makes of each piece one behind the other.
func ofEach(all []string, turn func(string) string) string {
	var out strings.Builder
	for _, piece := range all {
		out.WriteString(turn(piece))
	}
	return out.String()
}
