package programs

import (
	"slices"

	"lenses/patterns"
)

// key is what a piece goes by when it is put back: the small letters with which its view begins.
func key(view string) string {
	end := 0
	for end < len(view) && patterns.IsSmallLetter(view[end]) {
		end++
	}
	return view[:end]
}

// chunk is a piece of a source, with the key of its view.
type chunk struct {
	key    string
	source string
}

// stock has the pieces of a source that were not used yet, in their order.
type stock struct {
	chunks []chunk
}

// take answers the first piece of a key and uses it up, so that no two pieces of a view are put into one.
func (s *stock) take(key string) (string, bool) {
	for i, c := range s.chunks {
		if c.key == key {
			s.chunks = slices.Delete(s.chunks, i, i+1)
			return c.source, true
		}
	}
	return "", false
}
