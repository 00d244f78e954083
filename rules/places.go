package rules

import "winnow/marks"

// None is the place of what is not there.
const None = -1

// toExpression is how far behind its rule's name an expression begins.
const toExpression = 2

// beginsRule tells whether a rule begins at a place that lies in the grammar.
func beginsRule(grammar string, place int) bool {
	return place == 0 || marks.At(grammar, place-1) == ';'
}

// firstRule answers where the first rule with a name begins, or None.
func firstRule(grammar string, name byte) int {
	for i := 0; i < len(grammar); i++ {
		if grammar[i] == name && beginsRule(grammar, i) {
			return i
		}
	}
	return None
}

// Expression answers where the expression of a name's rule begins, or None.
func Expression(grammar string, name byte) int {
	rule := firstRule(grammar, name)
	if rule == None {
		return None
	}
	return rule + toExpression
}

// Alternative answers where the alternative with a number begins, of the
// expression that begins at a place, or None.
func Alternative(grammar string, expression int, number int) int {
	place := expression
	for n := 0; n < number && place != None; n++ {
		place = Next(grammar, place)
	}
	return place
}

// Next answers where the alternative begins that stands behind the one that
// begins at a place, in the same expression, or None.
func Next(grammar string, alternative int) int {
	end := endOfAlternative(grammar, alternative)
	if marks.At(grammar, end) != '|' {
		return None
	}
	return end + 1
}

func endOfAlternative(grammar string, place int) int {
	for IsFactor(grammar, place) {
		place = Behind(grammar, place)
	}
	return place
}

// IsFactor tells whether a factor begins at a place, and not the end of an
// alternative.
func IsFactor(grammar string, place int) bool {
	mark := marks.At(grammar, place)
	return marks.IsLetter(mark) || marks.IsName(mark) || marks.IsOpening(mark)
}

// Behind answers the place behind the factor that begins at a place.
func Behind(grammar string, factor int) int {
	deep := 0
	for i := factor; i < len(grammar); i++ {
		mark := marks.At(grammar, i)
		if marks.IsOpening(mark) {
			deep++
		}
		if marks.IsClosing(mark) {
			deep--
		}
		if deep == 0 {
			return i + 1
		}
	}
	return len(grammar)
}
