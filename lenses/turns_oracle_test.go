package lenses_test

// A second way to the answers of Get and Create: no text is cut; texts are grown out of those of the parts, together with what becomes of them.

// oracleTurn is a text and what a part makes of it.
type oracleTurn struct{ from, to string }

// oracleTurns has some sources with their views, and some views with the sources that are made for them.
type oracleTurns struct{ get, create []oracleTurn }

// oracleTurnLimit is how many texts of a part are grown further: there would be too many soon.
const oracleTurnLimit = 60

func oracleCopyTurns(texts []string) oracleTurns {
	var same []oracleTurn
	for _, text := range texts {
		same = append(same, oracleTurn{text, text})
	}
	return oracleTurns{same, same}
}

func oracleLeaveOutTurns(texts []string, word string) oracleTurns {
	var gone []oracleTurn
	for _, text := range texts {
		gone = append(gone, oracleTurn{text, ""})
	}
	return oracleTurns{gone, []oracleTurn{{"", word}}}
}

func oraclePutInTurns(word string) oracleTurns {
	return oracleTurns{[]oracleTurn{{"", word}}, []oracleTurn{{word, ""}}}
}

func oracleRowTurns(a, b oracleTurns) oracleTurns {
	return oracleTurns{oracleJoin(a.get, b.get, false), oracleJoin(a.create, b.create, false)}
}

func oracleChangeTurns(a, b oracleTurns) oracleTurns {
	return oracleTurns{oracleJoin(a.get, b.get, true), oracleJoin(b.create, a.create, true)}
}

// oracleUnionTurns leaves out what b would create of views that are a's.
func oracleUnionTurns(a, b oracleTurns, viewsOfA string) oracleTurns {
	out := oracleTurns{append(a.get[:len(a.get):len(a.get)], b.get...), a.create[:len(a.create):len(a.create)]}
	whole := oracleWhole(viewsOfA)
	for _, turn := range b.create {
		if !whole.MatchString(turn.from) {
			out.create = append(out.create, turn)
		}
	}
	return out
}

func oracleRepeatTurns(a oracleTurns) oracleTurns {
	return oracleTurns{oracleAgain(a.get), oracleAgain(a.create)}
}

// oracleAgain has up to three pieces one behind the other.
func oracleAgain(piece []oracleTurn) []oracleTurn {
	last := []oracleTurn{{"", ""}}
	all := last
	for range 3 {
		last = oracleJoin(last, piece, false)
		all = append(all, last...)
	}
	return all
}

func oracleJoin(a, b []oracleTurn, change bool) []oracleTurn {
	var out []oracleTurn
	a, b = oracleThin(a), oracleThin(b)
	for _, one := range a {
		for _, other := range b {
			to := one.to + other.to
			if change {
				to = other.to + one.to
			}
			if len(one.from)+len(other.from) <= 60 {
				out = append(out, oracleTurn{one.from + other.from, to})
			}
		}
	}
	return oracleThin(out)
}

// oracleThin takes as many as the limit is, from all over the list.
func oracleThin(all []oracleTurn) []oracleTurn {
	if len(all) <= oracleTurnLimit {
		return all
	}
	var out []oracleTurn
	for i := range oracleTurnLimit {
		out = append(out, all[i*len(all)/oracleTurnLimit])
	}
	return out
}
