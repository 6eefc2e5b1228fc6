package lenses_test

import "slices"

// A second way to the answers of Get, Create and Put: no text is cut; texts are grown out of those of the parts, together with what becomes of them.

// oracleTurn is a text and what a part makes of it.
type oracleTurn struct{ from, to string }

// oracleTurns has some sources with their views, some views with the sources that are made for them, and some views that are put into sources.
type oracleTurns struct {
	get, create []oracleTurn
	puts        []oraclePut
}

// oracleTurnLimit is how many texts of a part are grown further: there would be too many soon.
const oracleTurnLimit = 60

func oracleCopyTurns(texts []string) oracleTurns {
	var same []oracleTurn
	for _, text := range texts {
		same = append(same, oracleTurn{text, text})
	}
	return oracleTurns{same, same, oracleCopyPuts(texts)}
}

func oracleLeaveOutTurns(texts []string, word string) oracleTurns {
	var gone []oracleTurn
	var puts []oraclePut
	for _, text := range texts {
		gone = append(gone, oracleTurn{text, ""})
		puts = append(puts, oraclePut{"", text, "", text})
	}
	return oracleTurns{gone, []oracleTurn{{"", word}}, puts}
}

func oraclePutInTurns(word string) oracleTurns {
	return oracleTurns{[]oracleTurn{{"", word}}, []oracleTurn{{word, ""}}, []oraclePut{{word, "", word, ""}}}
}

func oracleRowTurns(a, b oracleTurns) oracleTurns {
	return oracleTurns{oracleJoin(a.get, b.get, false), oracleJoin(a.create, b.create, false), oracleJoinPuts(a.puts, b.puts, false)}
}

func oracleChangeTurns(a, b oracleTurns) oracleTurns {
	return oracleTurns{oracleJoin(a.get, b.get, true), oracleJoin(b.create, a.create, true), oracleJoinPuts(a.puts, b.puts, true)}
}

// oracleUnionTurns leaves out what b would create of views that are a's.
func oracleUnionTurns(a, b oracleTurns, viewsOfA, viewsOfB string) oracleTurns {
	createdByB := oracleNot(b.create, viewsOfA)
	return oracleTurns{
		slices.Concat(a.get, b.get),
		slices.Concat(a.create, createdByB),
		slices.Concat(a.puts, b.puts, oracleAcross(a.get, createdByB), oracleAcross(b.get, oracleNot(a.create, viewsOfB))),
	}
}

// oracleNot takes those turns that do not begin with one of these texts.
func oracleNot(turns []oracleTurn, texts string) []oracleTurn {
	var out []oracleTurn
	whole := oracleWhole(texts)
	for _, turn := range turns {
		if !whole.MatchString(turn.from) {
			out = append(out, turn)
		}
	}
	return out
}

func oracleRepeatTurns(a oracleTurns) oracleTurns {
	return oracleTurns{oracleAgain(a.get), oracleAgain(a.create), oracleNumbered(a)}
}

func oracleKeysTurns(a oracleTurns) oracleTurns {
	return oracleTurns{oracleAgain(a.get), oracleAgain(a.create), oracleKeyed(a)}
}

// oracleAgain has up to three pieces one behind the other.
func oracleAgain(piece []oracleTurn) []oracleTurn {
	last := []oracleTurn{{"", ""}}
	all := last
	for range 3 {
		last = oracleJoin(last, piece, false)
		all = append(all, last...)
	}
	return all
}

func oracleJoin(a, b []oracleTurn, change bool) []oracleTurn {
	var out []oracleTurn
	a, b = oracleThin(a), oracleThin(b)
	for _, one := range a {
		for _, other := range b {
			to := one.to + other.to
			if change {
				to = other.to + one.to
			}
			if len(one.from)+len(other.from) <= 60 {
				out = append(out, oracleTurn{one.from + other.from, to})
			}
		}
	}
	return oracleThin(out)
}

// oracleThin takes as many as the limit is, from all over the list: what lies side by side in it is much alike.
func oracleThin[T any](all []T) []T {
	if len(all) <= oracleTurnLimit {
		return all
	}
	var out []T
	for i := range oracleTurnLimit {
		out = append(out, all[i*7919%len(all)])
	}
	return out
}
