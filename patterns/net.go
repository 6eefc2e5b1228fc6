package patterns

// set is a set of a net's places, a bit for each: a pattern that Read answers has at most api.MaxSize of them, fewer than there are bits.
type set uint32

func (s set) has(i int) bool {
	return s>>i&1 == 1
}

// span is what a part of a pattern shows to what stands around it: the places where its texts begin and end, and whether the text of no signs is one of them.
type span struct {
	first set
	last  set
	empty bool
}

// start is where a walk through a net stands that has read nothing yet: at no place.
const start = -1

// Net holds the places of a pattern and tells which may stand right behind which. A text is gone through once, whatever the pattern: no repeat within repeats makes it longer.
type Net struct {
	places []Signs
	behind []set
	whole  span
}

// NewNet lays out a pattern as a net.
func NewNet(p Pattern) *Net {
	n := &Net{}
	n.whole = n.add(p)
	return n
}

func (n *Net) add(p Pattern) span {
	switch p := p.(type) {
	case place:
		return n.addPlace(p.signs)
	case row:
		return n.addRow(p.parts)
	case choice:
		return n.addChoice(p.sides)
	case repeat:
		return n.addRepeat(p)
	}
	return span{}
}

func (n *Net) addPlace(signs Signs) span {
	only := set(1) << len(n.places)
	n.places = append(n.places, signs)
	n.behind = append(n.behind, 0)
	return span{first: only, last: only}
}

func (n *Net) addRow(parts []Pattern) span {
	all := span{empty: true}
	for _, part := range parts {
		next := n.add(part)
		n.link(all.last, next.first)
		if all.empty {
			all.first |= next.first
		}
		if !next.empty {
			all.last = 0
		}
		all.last |= next.last
		all.empty = all.empty && next.empty
	}
	return all
}

func (n *Net) addChoice(sides []Pattern) span {
	all := span{}
	for _, side := range sides {
		next := n.add(side)
		all.first |= next.first
		all.last |= next.last
		all.empty = all.empty || next.empty
	}
	return all
}

func (n *Net) addRepeat(p repeat) span {
	all := n.add(p.part)
	if p.again {
		n.link(all.last, all.first)
	}
	all.empty = all.empty || p.missing
	return all
}

// link lets each place of to stand right behind each of from.
func (n *Net) link(from, to set) {
	for i := range n.behind {
		if from.has(i) {
			n.behind[i] |= to
		}
	}
}

// next answers the places that may stand right behind a place, or begin a text.
func (n *Net) next(at int) set {
	if at == start {
		return n.whole.first
	}
	return n.behind[at]
}

// ends tells whether a text may end at a place, or ahead of all.
func (n *Net) ends(at int) bool {
	if at == start {
		return n.whole.empty
	}
	return n.whole.last.has(at)
}

// Matches tells whether a text is one of the pattern.
func (n *Net) Matches(text string) bool {
	if text == "" {
		return n.whole.empty
	}
	at := set(0)
	open := n.whole.first
	for i := range len(text) {
		at = n.taking(open, text[i])
		open = n.behindAny(at)
	}
	return at&n.whole.last != 0
}

// taking answers those of the places that take the byte.
func (n *Net) taking(open set, b byte) set {
	taken := set(0)
	for i, signs := range n.places {
		if open.has(i) && signs.has(b) {
			taken |= 1 << i
		}
	}
	return taken
}

func (n *Net) behindAny(at set) set {
	all := set(0)
	for i, next := range n.behind {
		if at.has(i) {
			all |= next
		}
	}
	return all
}
