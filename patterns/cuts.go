package patterns

// state is how far two walks have come that read one text: each stands at a place of its net. The phase tells which nets these are.
type state struct {
	phase int
	one   int
	two   int
}

// search meets every state once. There are few of them, however long the texts are that lead there, so it ends.
type search struct {
	met  map[state]struct{}
	open []state
}

func newSearch(from state) *search {
	s := &search{met: map[state]struct{}{}}
	s.meet(from)
	return s
}

func (s *search) meet(x state) {
	if _, known := s.met[x]; known {
		return
	}
	s.met[x] = struct{}{}
	s.open = append(s.open, x)
}

// next asks that a state is open.
func (s *search) next() state {
	last := len(s.open) - 1
	x := s.open[last]
	s.open = s.open[:last]
	return x
}

// read meets the states to which both walks come by one sign more.
func (s *search) read(from state, one, two *Net) {
	ones, twos := one.next(from.one), two.next(from.two)
	for i, signs := range one.places {
		if !ones.has(i) {
			continue
		}
		for j, others := range two.places {
			if twos.has(j) && signs.meets(others) {
				s.meet(state{from.phase, i, j})
			}
		}
	}
}

// Apart tells whether no text is one of both.
func Apart(a, b *Net) bool {
	s := newSearch(state{one: start, two: start})
	for len(s.open) > 0 {
		x := s.next()
		if a.ends(x.one) && b.ends(x.two) {
			return false
		}
		s.read(x, a, b)
	}
	return true
}

// The phases of a text that two walks cut at different places: neither has cut it yet, walk one alone has, both have.
const (
	uncut = iota
	cutByOne
	cutByBoth
)

// Once tells whether no text can be cut in two ways into one of a and, behind it, one of b. Walk one is the one that cuts first; walk two reads at least one sign more ahead of its cut, or the two ways were the same.
func Once(a, b *Net) bool {
	s := newSearch(state{uncut, start, start})
	for len(s.open) > 0 {
		x := s.next()
		switch x.phase {
		case uncut:
			s.read(x, a, a)
			if a.ends(x.one) {
				s.read(state{cutByOne, start, x.two}, b, a)
			}
		case cutByOne:
			s.read(x, b, a)
			if a.ends(x.two) {
				s.meet(state{cutByBoth, x.one, start})
			}
		case cutByBoth:
			if b.ends(x.one) && b.ends(x.two) {
				return false
			}
			s.read(x, b, b)
		}
	}
	return true
}

// Cut cuts a text, which must have such a cut, into one of a and, behind it, one of b. Where Once holds of both there is no other way.
func Cut(a, b *Net, text string) (string, string) {
	for at := range len(text) {
		if a.Matches(text[:at]) && b.Matches(text[at:]) {
			return text[:at], text[at:]
		}
	}
	return text, ""
}

// Pieces cuts a text of all into texts of one. All must have any number of texts of one, and one must not have the text of no signs, or the cutting would not get ahead.
func Pieces(one, all *Net, text string) []string {
	var pieces []string
	for rest := text; rest != ""; {
		var piece string
		piece, rest = Cut(one, all, rest)
		pieces = append(pieces, piece)
	}
	return pieces
}
