package lenses_test

import (
	"fmt"
	"regexp/syntax"
	"slices"
)

// A second way to the answers of Once and Apart: the library's programs, gone through sign by sign with all their ways at once, so that each text is gone through only one way here.

// oracleProg has the instructions of the library for a pattern.
type oracleProg struct {
	inst  []syntax.Inst
	start []uint32
}

// oracleCompile takes the library's way of writing, in which oracleInner tells a pattern.
func oracleCompile(inner string) oracleProg {
	tree, err := syntax.Parse("(?:"+inner+")", syntax.Perl)
	if err != nil {
		panic(err)
	}
	prog, err := syntax.Compile(tree.Simplify())
	if err != nil {
		panic(err)
	}
	p := oracleProg{inst: prog.Inst}
	p.start = p.closed([]uint32{uint32(prog.Start)})
	return p
}

// closed answers the instructions that read a sign or end, to which those of at lead; sorted.
func (p oracleProg) closed(at []uint32) []uint32 {
	seen := map[uint32]bool{}
	var out []uint32
	for len(at) > 0 {
		i := at[0]
		at = at[1:]
		if seen[i] {
			continue
		}
		seen[i] = true
		switch in := p.inst[i]; in.Op {
		case syntax.InstAlt, syntax.InstAltMatch:
			at = append(at, in.Out, in.Arg)
		case syntax.InstCapture, syntax.InstNop, syntax.InstEmptyWidth:
			at = append(at, in.Out)
		case syntax.InstFail:
		default:
			out = append(out, i)
		}
	}
	slices.Sort(out)
	return out
}

func (p oracleProg) read(at []uint32, sign rune) []uint32 {
	var out []uint32
	for _, i := range at {
		in := p.inst[i]
		if in.Op != syntax.InstMatch && in.MatchRune(sign) {
			out = append(out, in.Out)
		}
	}
	return p.closed(out)
}

func (p oracleProg) ends(at []uint32) bool {
	return slices.ContainsFunc(at, func(i uint32) bool { return p.inst[i].Op == syntax.InstMatch })
}

// oracleApart reads the same signs in both programs, over an alphabet that has every sign of theirs.
func oracleApart(a, b oracleProg, alphabet string) bool {
	type pair struct{ one, two []uint32 }
	seen := map[string]bool{}
	open := []pair{{a.start, b.start}}
	for len(open) > 0 {
		x := open[0]
		open = open[1:]
		if key := fmt.Sprint(x); seen[key] {
			continue
		} else {
			seen[key] = true
		}
		if a.ends(x.one) && b.ends(x.two) {
			return false
		}
		for _, sign := range alphabet {
			open = append(open, pair{a.read(x.one, sign), b.read(x.two, sign)})
		}
	}
	return true
}

// oracleCuts is what can be told of all cuts of one text: where the text stands in a, and for each place where it was cut, where the rest stands in b. Of cuts that stand alike two are enough.
type oracleCuts struct {
	whole []uint32
	rests [][]uint32
}

func (c *oracleCuts) add(rest []uint32) {
	alike := 0
	for _, other := range c.rests {
		if slices.Equal(rest, other) {
			alike++
		}
	}
	if alike < 2 && len(rest) > 0 {
		c.rests = append(c.rests, rest)
	}
}

func oracleOnce(a, b oracleProg, alphabet string) bool {
	first := oracleCuts{whole: a.start}
	if a.ends(a.start) {
		first.add(b.start)
	}
	seen := map[string]bool{}
	open := []oracleCuts{first}
	for len(open) > 0 {
		x := open[0]
		open = open[1:]
		slices.SortFunc(x.rests, slices.Compare)
		if key := fmt.Sprint(x); seen[key] {
			continue
		} else {
			seen[key] = true
		}
		ways := 0
		for _, rest := range x.rests {
			if b.ends(rest) {
				ways++
			}
		}
		if ways > 1 {
			return false
		}
		for _, sign := range alphabet {
			next := oracleCuts{whole: a.read(x.whole, sign)}
			for _, rest := range x.rests {
				next.add(b.read(rest, sign))
			}
			if a.ends(next.whole) {
				next.add(b.start)
			}
			open = append(open, next)
		}
	}
	return true
}

// oraclePieces tells whether no text can be cut in two ways into pieces that are p's. It counts the ways, up to two, by where the last piece stands.
func oraclePieces(p oracleProg, alphabet string) bool {
	type last struct {
		at   []uint32
		ways int
	}
	add := func(all []last, at []uint32, ways int) []last {
		for i := range all {
			if slices.Equal(all[i].at, at) {
				all[i].ways = min(2, all[i].ways+ways)
				return all
			}
		}
		return append(all, last{at, ways})
	}
	seen := map[string]bool{}
	open := [][]last{{{p.start, 1}}}
	for len(open) > 0 {
		x := open[0]
		open = open[1:]
		slices.SortFunc(x, func(a, b last) int { return slices.Compare(a.at, b.at) })
		if key := fmt.Sprint(x); seen[key] {
			continue
		} else {
			seen[key] = true
		}
		for _, sign := range alphabet {
			var next []last
			ends := 0
			for _, piece := range x {
				at := p.read(piece.at, sign)
				if len(at) > 0 {
					next = add(next, at, piece.ways)
				}
				if p.ends(at) {
					ends += piece.ways
				}
			}
			if ends > 1 {
				return false
			}
			if ends > 0 {
				next = add(next, p.start, ends)
			}
			open = append(open, next)
		}
	}
	return true
}
