package lenses_test

import "regexp"

// oraclePut is a view that is put into a source, what Get reads out of that source, and what comes of it.
type oraclePut struct{ view, source, seen, result string }

func oracleCopyPuts(texts []string) []oraclePut {
	var out []oraclePut
	for _, view := range texts {
		for _, source := range texts {
			out = append(out, oraclePut{view, source, source, view})
		}
	}
	return oracleThin(out)
}

// oracleAcross gives up the sources of one side of a union for what the other side creates.
func oracleAcross(sources, created []oracleTurn) []oraclePut {
	var out []oraclePut
	for _, source := range oracleThin(sources) {
		for _, view := range oracleThin(created) {
			out = append(out, oraclePut{view.from, source.from, source.to, view.to})
		}
	}
	return oracleThin(out)
}

func (p oraclePut) then(other oraclePut, change bool) oraclePut {
	if change {
		return oraclePut{other.view + p.view, p.source + other.source, other.seen + p.seen, p.result + other.result}
	}
	return oraclePut{p.view + other.view, p.source + other.source, p.seen + other.seen, p.result + other.result}
}

func oracleJoinPuts(a, b []oraclePut, change bool) []oraclePut {
	var out []oraclePut
	a, b = oracleThin(a), oracleThin(b)
	for _, one := range a {
		for _, other := range b {
			if both := one.then(other, change); len(both.view) <= 60 && len(both.source) <= 60 {
				out = append(out, both)
			}
		}
	}
	return oracleThin(out)
}

// oracleCreated has pieces of a view that find no piece of the source.
func oracleCreated(create []oracleTurn) []oraclePut {
	var out []oraclePut
	for _, turn := range create {
		out = append(out, oraclePut{view: turn.from, result: turn.to})
	}
	return out
}

// oracleUnused has pieces of a source into which nothing is put.
func oracleUnused(get []oracleTurn) []oraclePut {
	var out []oraclePut
	for _, turn := range get {
		out = append(out, oraclePut{source: turn.from, seen: turn.to})
	}
	return out
}

// oracleNumbered has up to three pieces that are put, and behind them, up to three in all, some that are left over on one side.
func oracleNumbered(piece oracleTurns) []oraclePut {
	last := []oraclePut{{}}
	all := last
	for put := range 4 {
		for _, left := range [][]oraclePut{oracleCreated(piece.create), oracleUnused(piece.get)} {
			behind := last
			for range 3 - put {
				behind = oracleJoinPuts(behind, left, false)
				all = append(all, behind...)
			}
		}
		last = oracleJoinPuts(last, piece.puts, false)
		all = append(all, last...)
	}
	return all
}

var oracleLetters = regexp.MustCompile("^[a-z]*")

func oracleKey(view string) string {
	return oracleLetters.FindString(view)
}

// oracleChunks are pieces to choose from: those that find each other by their key, and those that may be left over on either side.
type oracleChunks struct{ matched, created, unused []oraclePut }

func oracleChunksOf(piece oracleTurns) oracleChunks {
	out := oracleChunks{created: oracleCreated(piece.create), unused: oracleUnused(piece.get)}
	for _, put := range piece.puts {
		if oracleKey(put.view) == oracleKey(put.seen) {
			out.matched = append(out.matched, put)
		}
	}
	return out
}

// oracleChunk has its place in the list of the chosen, by which it is known on both sides.
type oracleChunk struct {
	oraclePut
	number             int
	hasView, hasSource bool
}

// choose takes up to five pieces, twice as many of those that find each other.
func (c oracleChunks) choose(d *dice) []oracleChunk {
	var out []oracleChunk
	for number := range d.below(6) {
		from, chunk := c.matched, oracleChunk{number: number, hasView: true, hasSource: true}
		switch d.below(4) {
		case 0:
			from, chunk.hasSource = c.created, false
		case 1:
			from, chunk.hasView = c.unused, false
		}
		if len(from) > 0 {
			chunk.oraclePut = from[d.below(len(from))]
			out = append(out, chunk)
		}
	}
	return out
}

func (d *dice) shuffled(chunks []oracleChunk) []oracleChunk {
	out := append([]oracleChunk(nil), chunks...)
	for i := range out {
		j := i + d.below(len(out)-i)
		out[i], out[j] = out[j], out[i]
	}
	return out
}

// oracleFits tells whether, of each key by itself, the first piece of the view is that of the first of the source, the second that of the second, and so on.
func oracleFits(views, sources []oracleChunk) bool {
	ofView, ofSource := map[string][]int{}, map[string][]int{}
	for _, chunk := range views {
		if key := oracleKey(chunk.view); chunk.hasView {
			ofView[key] = append(ofView[key], chunk.number)
		}
	}
	for _, chunk := range sources {
		if key := oracleKey(chunk.seen); chunk.hasSource {
			ofSource[key] = append(ofSource[key], chunk.number)
		}
	}
	for key, numbers := range ofView {
		for i := range min(len(numbers), len(ofSource[key])) {
			if numbers[i] != ofSource[key][i] {
				return false
			}
		}
	}
	return true
}

// oracleKeyed lays pieces out in one order as a view, in another as a source, and keeps what fits.
func oracleKeyed(piece oracleTurns) []oraclePut {
	d := dice(6)
	chunks := oracleChunksOf(piece)
	var out []oraclePut
	for range 4 * oracleTurnLimit {
		views := chunks.choose(&d)
		sources := d.shuffled(views)
		if !oracleFits(views, sources) {
			continue
		}
		var all oraclePut
		for _, chunk := range views {
			all.view += chunk.view
			all.result += chunk.result
		}
		for _, chunk := range sources {
			all.source += chunk.source
			all.seen += chunk.seen
		}
		if len(all.view) <= 60 && len(all.source) <= 60 {
			out = append(out, all)
		}
	}
	return oracleThin(out)
}
