package programs

import (
	"strings"

	"lenses/patterns"
)

// Part is a part of a program, or a whole one. It is well typed: what is not is never made.
type Part struct {
	types
	// Get reads the view out of a text that must be a source, Create makes a source for one that must be a view, and Put writes such a view into such a source: texts are cut in the one way that these have.
	Get    func(source string) string
	Create func(view string) string
	Put    func(view, source string) string
}

func copied(p patterns.Pattern) *Part {
	same := textsOf(p)
	return &Part{
		types:  types{sources: same, views: same},
		Get:    unchanged,
		Create: unchanged,
		Put:    func(view, _ string) string { return view },
	}
}

func unchanged(text string) string { return text }

func leftOut(p patterns.Pattern, word string) *Part {
	kinds := types{sources: textsOf(p), views: textsOf(patterns.Word(""))}
	need(kinds.IsSource(word))
	return &Part{
		types:  kinds,
		Get:    always(""),
		Create: always(word),
		Put:    func(_, source string) string { return source },
	}
}

func putIn(word string) *Part {
	kinds := types{sources: textsOf(patterns.Word("")), views: textsOf(patterns.Word(word))}
	return &Part{
		types:  kinds,
		Get:    always(word),
		Create: always(""),
		Put:    func(_, _ string) string { return "" },
	}
}

func always(word string) func(string) string {
	return func(string) string { return word }
}

func inRow(first, rest *Part) *Part {
	return &Part{
		types: types{
			sources: behind(first.sources, rest.sources),
			views:   behind(first.views, rest.views),
		},
		Get: func(source string) string {
			one, other := cut(first.sources, rest.sources, source)
			return first.Get(one) + rest.Get(other)
		},
		Create: func(view string) string {
			one, other := cut(first.views, rest.views, view)
			return first.Create(one) + rest.Create(other)
		},
		Put: func(view, source string) string {
			one, other := cut(first.views, rest.views, view)
			oldOne, oldOther := cut(first.sources, rest.sources, source)
			return first.Put(one, oldOne) + rest.Put(other, oldOther)
		},
	}
}

func changingPlaces(first, second *Part) *Part {
	return &Part{
		types: types{
			sources: behind(first.sources, second.sources),
			views:   behind(second.views, first.views),
		},
		Get: func(source string) string {
			one, other := cut(first.sources, second.sources, source)
			return second.Get(other) + first.Get(one)
		},
		Create: func(view string) string {
			other, one := cut(second.views, first.views, view)
			return first.Create(one) + second.Create(other)
		},
		Put: func(view, source string) string {
			other, one := cut(second.views, first.views, view)
			oldOne, oldOther := cut(first.sources, second.sources, source)
			return first.Put(one, oldOne) + second.Put(other, oldOther)
		},
	}
}

// united asks nothing of the views: the source tells the side, or else the first side goes ahead.
func united(first, rest *Part) *Part {
	need(patterns.Apart(first.sources.Net, rest.sources.Net))
	return &Part{
		types: types{
			sources: either(first.sources, rest.sources),
			views:   either(first.views, rest.views),
		},
		Get: func(source string) string {
			if first.IsSource(source) {
				return first.Get(source)
			}
			return rest.Get(source)
		},
		Create: func(view string) string {
			if first.IsView(view) {
				return first.Create(view)
			}
			return rest.Create(view)
		},
		Put: func(view, source string) string {
			if first.IsSource(source) {
				return putOrCreate(first, rest, view, source)
			}
			return putOrCreate(rest, first, view, source)
		},
	}
}

// putOrCreate gives up the source where the view is none of the side that the source is of: what is written must be read again.
func putOrCreate(side, other *Part, view, source string) string {
	if side.IsView(view) {
		return side.Put(view, source)
	}
	return other.Create(view)
}

// repeated lets all pieces have one key: the first of the source that was not used yet is then the one of the same number.
func repeated(piece *Part) *Part {
	return inPieces(piece, always(""))
}

func byKeys(piece *Part) *Part {
	return inPieces(piece, key)
}

// inPieces puts each piece of a view into the first unused one of the source whose view has the same key by keyOf.
func inPieces(piece *Part, keyOf func(view string) string) *Part {
	all := types{sources: many(piece.sources), views: many(piece.views)}
	return &Part{
		types: all,
		Get: func(source string) string {
			return ofEach(pieces(piece.sources, all.sources, source), piece.Get)
		},
		Create: func(view string) string {
			return ofEach(pieces(piece.views, all.views, view), piece.Create)
		},
		Put: func(view, source string) string {
			var unused stock
			for _, old := range pieces(piece.sources, all.sources, source) {
				unused.chunks = append(unused.chunks, chunk{keyOf(piece.Get(old)), old})
			}
			return ofEach(pieces(piece.views, all.views, view), func(one string) string {
				if old, found := unused.take(keyOf(one)); found {
					return piece.Put(one, old)
				}
				return piece.Create(one)
			})
		},
	}
}

// ofEach puts what turn makes of each piece one behind the other.
func ofEach(all []string, turn func(string) string) string {
	var out strings.Builder
	for _, piece := range all {
		out.WriteString(turn(piece))
	}
	return out.String()
}
