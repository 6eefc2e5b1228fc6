// Package programs reads programs and puts them together of parts, each of which knows its sources and views.
package programs

import (
	"errors"

	"lenses/patterns"
)

// ErrType tells that a program is not well typed.
var ErrType = errors.New("it could be read in two ways, or a word does not fit")

// need leaves the making of a part that is not well typed.
func need(holds bool) {
	if !holds {
		panic(ErrType)
	}
}

// texts are those of a pattern, of which greater ones are put together; its net is what is asked.
type texts struct {
	patterns.Pattern
	*patterns.Net
}

func textsOf(p patterns.Pattern) texts {
	return texts{p, patterns.NewNet(p)}
}

// behind asks that a text can be cut in one way alone, so that it is known what belongs to which part.
func behind(first, second texts) texts {
	need(patterns.Once(first.Net, second.Net))
	return textsOf(patterns.Behind(first.Pattern, second.Pattern))
}

func either(one, other texts) texts {
	return textsOf(patterns.Either(one.Pattern, other.Pattern))
}

// many asks that a text has one way to be cut into pieces. Where there are two, they differ first at some piece; from there on the text is cut in two ways into a piece and the rest of the pieces.
func many(piece texts) texts {
	all := textsOf(patterns.Many(piece.Pattern))
	need(!piece.Matches("") && patterns.Once(piece.Net, all.Net))
	return all
}

// cut undoes what behind put together.
func cut(first, second texts, text string) (string, string) {
	return patterns.Cut(first.Net, second.Net, text)
}

// pieces undoes what many put together.
func pieces(piece, all texts, text string) []string {
	return patterns.Pieces(piece.Net, all.Net, text)
}

// types are what every part has: which texts are its sources, and which its views.
type types struct {
	sources texts
	views   texts
}

// IsSource tells whether a text, however long, is one of the sources.
func (t types) IsSource(text string) bool {
	return t.sources.Matches(text)
}

// IsView tells whether a text, however long, is one of the views.
func (t types) IsView(text string) bool {
	return t.views.Matches(text)
}
