// Package patterns reads patterns and tells which texts are theirs.
package patterns

// Signs is a set of signs. Every sign is below 128, so two words of bits hold any set.
type Signs [2]uint64

// IsSign tells whether a byte is a sign: no text with another one is of any pattern.
func IsSign(b byte) bool {
	return b >= ' ' && b <= '~' || b == '\n'
}

// IsSmallLetter tells the letters that the sign `.` stands for.
func IsSmallLetter(b byte) bool {
	return b >= 'a' && b <= 'z'
}

func isLetterOrDigit(b byte) bool {
	return IsSmallLetter(b) || b >= 'A' && b <= 'Z' || b >= '0' && b <= '9'
}

// with asks for signs: a last of 255 would never end the loop.
func (s Signs) with(first, last byte) Signs {
	for b := first; b <= last; b++ {
		s[b/64] |= 1 << (b % 64)
	}
	return s
}

func (s Signs) has(b byte) bool {
	return b < 128 && s[b/64]>>(b%64)&1 == 1
}

// meets tells whether a sign is in both.
func (s Signs) meets(other Signs) bool {
	return s[0]&other[0]|s[1]&other[1] != 0
}
