package patterns

// Pattern is a place, row, choice or repeat; a type switch tells which.
type Pattern interface {
	// Size is how many signs, dots and classes stand in the pattern.
	Size() int
}

// place is one sign out of a set: a sign, a dot or a class.
type place struct {
	signs Signs
}

// row is its parts one behind the other; a row of none is the text of no signs.
type row struct {
	parts []Pattern
}

type choice struct {
	sides []Pattern
}

// repeat is what `*`, `+` and `?` make of a part: it may be missing, it may come again, or both.
type repeat struct {
	part    Pattern
	missing bool
	again   bool
}

func onlySign(b byte) Pattern {
	return place{Signs{}.with(b, b)}
}

// Word is the pattern of one text, which has signs alone.
func Word(text string) Pattern {
	var parts []Pattern
	for i := range len(text) {
		parts = append(parts, onlySign(text[i]))
	}
	return row{parts}
}

// Behind has the texts of one, each with a text of the other behind it.
func Behind(one, other Pattern) Pattern {
	return row{[]Pattern{one, other}}
}

// Either has the texts of both.
func Either(one, other Pattern) Pattern {
	return choice{[]Pattern{one, other}}
}

// Many has any number of texts of one, one behind the other.
func Many(one Pattern) Pattern {
	return repeat{part: one, missing: true, again: true}
}

func (p place) Size() int { return 1 }

func (p row) Size() int { return sizeOfAll(p.parts) }

func (p choice) Size() int { return sizeOfAll(p.sides) }

func (p repeat) Size() int { return p.part.Size() }

func sizeOfAll(all []Pattern) int {
	size := 0
	for _, p := range all {
		size += p.Size()
	}
	return size
}
