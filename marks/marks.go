// Package marks: what single bytes of a grammar and of a tree mean.
package marks

// At answers the byte at a place of a text, and 0 where the text has none. No
// mark is 0, so a caller may ask for any place and compare.
func At(text string, place int) byte {
	if place < 0 || place >= len(text) {
		return 0
	}
	return text[place]
}

// IsLetter tells whether a byte is a letter of words.
func IsLetter(mark byte) bool {
	return 'a' <= mark && mark <= 'z'
}

// IsName tells whether a byte is the name of a rule.
func IsName(mark byte) bool {
	return 'A' <= mark && mark <= 'Z'
}

// IsDigit tells whether a byte is a digit.
func IsDigit(mark byte) bool {
	return '0' <= mark && mark <= '9'
}

// Closing answers the bracket that closes what a bracket opens, and 0 for a
// byte that opens nothing.
func Closing(mark byte) byte {
	switch mark {
	case '(':
		return ')'
	case '[':
		return ']'
	case '{':
		return '}'
	case '<':
		return '>'
	}
	return 0
}

// IsOpening tells whether a byte is a bracket that opens.
func IsOpening(mark byte) bool {
	return Closing(mark) != 0
}

// IsClosing tells whether a byte is a bracket that closes.
func IsClosing(mark byte) bool {
	return mark == ')' || mark == ']' || mark == '}' || mark == '>'
}
