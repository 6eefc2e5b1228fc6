package programs

import "lenses/patterns"

// Part is a part of a program, or a whole one. It is well typed: what is not is never made.
type Part struct {
	types
}

func copied(p patterns.Pattern) *Part {
	same := textsOf(p)
	return &Part{types{sources: same, views: same}}
}

func leftOut(p patterns.Pattern, word string) *Part {
	part := &Part{types{sources: textsOf(p), views: textsOf(patterns.Word(""))}}
	need(part.IsSource(word))
	return part
}

func putIn(word string) *Part {
	return &Part{types{sources: textsOf(patterns.Word("")), views: textsOf(patterns.Word(word))}}
}

func inRow(first, rest *Part) *Part {
	return &Part{types{
		sources: behind(first.sources, rest.sources),
		views:   behind(first.views, rest.views),
	}}
}

func changingPlaces(first, second *Part) *Part {
	return &Part{types{
		sources: behind(first.sources, second.sources),
		views:   behind(second.views, first.views),
	}}
}

// united asks nothing of the views: the source tells the side, or else the first side goes ahead.
func united(first, rest *Part) *Part {
	need(patterns.Apart(first.sources.Net, rest.sources.Net))
	return &Part{types{
		sources: either(first.sources, rest.sources),
		views:   either(first.views, rest.views),
	}}
}

func repeated(piece *Part) *Part {
	return &Part{types{sources: many(piece.sources), views: many(piece.views)}}
}
