package patterns

// Pattern is a place, row, choice or repeat; a type switch tells which.
type Pattern interface {
	// Size is how many signs, dots and classes stand in the pattern.
	Size() int
}

// place is one sign out of a set: a sign, a dot or a class.
type place struct {
	signs Signs
}

// row is its parts one behind the other; a row of none is the text of no signs.
type row struct {
	parts []Pattern
}

type choice struct {
	sides []Pattern
}

// repeat is what `*`, `+` and `?` make of a part: it may be missing, it may come again, or both.
type repeat struct {
	part    Pattern
	missing bool
	again   bool
}

func (p place) Size() int { return 1 }

func (p row) Size() int { return sizeOfAll(p.parts) }

func (p choice) Size() int { return sizeOfAll(p.sides) }

func (p repeat) Size() int { return p.part.Size() }

func sizeOfAll(all []Pattern) int {
	size := 0
	for _, p := range all {
		size += p.Size()
	}
	return size
}
