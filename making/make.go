package making

import (
	"winnow/api"
	"winnow/marks"
	"winnow/rules"
)

// A maker writes a tree from the left to the right.
type maker struct {
	guide   guide
	choices string
	taken   int // how many choices were made
	tree    []byte
}

// Make makes a tree of the grammar as choices tell (P5).
func Make(grammar string, choices string, height int, most int) (string, api.Errno) {
	if !areChoices(choices) {
		return "", api.ErrChoice
	}
	if !areLimits(height, most) {
		return "", api.ErrArg
	}
	m := maker{guide: newGuide(grammar, most), choices: choices}
	// The name that begins the first rule is the start.
	if !m.guide.factorFits(0, height) {
		return "", api.ErrHeight
	}
	m.makeFactor(0, height)
	if m.isBig() {
		return "", api.ErrBig
	}
	return string(m.tree), api.OK
}

func areChoices(text string) bool {
	if len(text) > api.MaxTree {
		return false
	}
	for i := 0; i < len(text); i++ {
		if !marks.IsDigit(text[i]) {
			return false
		}
	}
	return true
}

// areLimits tells whether trees may be asked for that have at most that height
// and, in a list, at most that many elements.
func areLimits(height int, most int) bool {
	return 1 <= height && height <= api.MaxHeight && 1 <= most && most <= api.MaxCap
}

// isBig tells whether the tree has more bytes than may be. What is behind them
// is not written: there could be more of it than there is room and time for.
func (m *maker) isBig() bool {
	return len(m.tree) > api.MaxTree
}

func (m *maker) write(mark byte) {
	m.tree = append(m.tree, mark)
}

// choose answers which of so many ways to go. A choice is made only where there
// are at least two.
func (m *maker) choose(ways int) int {
	if ways < 2 {
		return 0
	}
	digit := marks.At(m.choices, m.taken)
	m.taken++
	if !marks.IsDigit(digit) {
		return 0
	}
	return int(digit-'0') % ways
}

// Each of the functions below makes a part of the tree that fits into the
// height that is left around it. Within a name less is left: that ends the
// recursion, for what fits has no name where nothing is left.

func (m *maker) makeExpression(expression int, left int) {
	ways := m.guide.alternatives(expression, left, api.MaxAlts)
	way := m.choose(ways)
	number := m.guide.alternative(expression, left, way)
	m.write(byte('0' + number))
	factor := rules.Alternative(m.guide.grammar, expression, number)
	for !m.isBig() && rules.IsFactor(m.guide.grammar, factor) {
		m.makeFactor(factor, left)
		factor = rules.Behind(m.guide.grammar, factor)
	}
}

func (m *maker) makeFactor(factor int, left int) {
	mark := marks.At(m.guide.grammar, factor)
	m.write(mark)
	if marks.IsName(mark) {
		m.makeName(mark, left)
	}
	if marks.IsOpening(mark) {
		m.makeBracket(factor, left)
	}
}

// makeName makes what stands behind a name.
func (m *maker) makeName(name byte, left int) {
	expression := rules.Expression(m.guide.grammar, name)
	m.write('(')
	m.makeExpression(expression, left-1)
	m.write(')')
}

// makeBracket makes what stands behind an opening bracket.
func (m *maker) makeBracket(bracket int, left int) {
	opening := marks.At(m.guide.grammar, bracket)
	ways := m.guide.counts(bracket, left)
	way := m.choose(ways)
	count := fewest(opening) + way
	for n := 0; n < count && !m.isBig(); n++ {
		if n > 0 {
			m.write(',')
		}
		m.makeExpression(bracket+1, left)
	}
	m.write(marks.Closing(opening))
}
