// Package making: trees out of choices, and choices out of trees.
//
// The grammars that are handed in here are such as rules.Check finds in order.
package making

import (
	"winnow/api"
	"winnow/marks"
	"winnow/rules"
)

const names = int('Z' - 'A' + 1)

// tooHigh is a height that fits nowhere: even within the start at most
// MaxHeight less one is left.
const tooHigh = api.MaxHeight

// A guide tells which ways there are to go on (P5). A place in its grammar
// stands for the expression, the alternative or the factor that begins there.
type guide struct {
	grammar string
	most    int
	lowest  [names]int // the height of the lowest tree of each name's expression
}

func newGuide(grammar string, most int) guide {
	g := guide{grammar: grammar, most: most}
	for i := 0; i < names; i++ {
		g.lowest[i] = tooHigh
	}
	// A tree is lower within a name than around it, so that whether there is
	// one of a height hangs on lesser heights alone.
	for height := 0; height < tooHigh; height++ {
		g.findLowest(height)
	}
	return g
}

// findLowest finds the names with a tree of that height, but of no lesser one.
func (g *guide) findLowest(height int) {
	for i := 0; i < names; i++ {
		expression := rules.Expression(g.grammar, byte('A'+i))
		if g.lowest[i] == tooHigh && g.expressionFits(expression, height) {
			g.lowest[i] = height
		}
	}
}

// expressionFits tells whether an expression has a tree that is no higher than
// what is left. So do the other two, of an alternative and of a factor.
func (g *guide) expressionFits(expression int, left int) bool {
	return g.alternatives(expression, left, api.MaxAlts) > 0
}

func (g *guide) alternativeFits(alternative int, left int) bool {
	factor := alternative
	for rules.IsFactor(g.grammar, factor) {
		if !g.factorFits(factor, left) {
			return false
		}
		factor = rules.Behind(g.grammar, factor)
	}
	return true
}

func (g *guide) factorFits(factor int, left int) bool {
	mark := marks.At(g.grammar, factor)
	if marks.IsName(mark) {
		return g.lowest[mark-'A'] < left
	}
	if marks.IsOpening(mark) && fewest(mark) > 0 {
		return g.expressionFits(factor+1, left)
	}
	return true
}

// alternatives answers how many alternatives of an expression have a tree that
// fits, of those with numbers below a given one: the ways, if that is MaxAlts.
func (g *guide) alternatives(expression int, left int, below int) int {
	ways := 0
	place := expression
	for number := 0; number < below && place != rules.None; number++ {
		if g.alternativeFits(place, left) {
			ways++
		}
		place = rules.Next(g.grammar, place)
	}
	return ways
}

// alternative answers the number of the alternative that is the given one of
// an expression's ways, or 0, if it has not so many.
func (g *guide) alternative(expression int, left int, way int) int {
	for number := 0; number < api.MaxAlts; number++ {
		if g.alternatives(expression, left, number+1) > way {
			return number
		}
	}
	return 0
}

// counts answers how many ways a bracket has, which differ in how many trees
// are in it. A group and an option are taken for lists of at most one.
func (g *guide) counts(bracket int, left int) int {
	if !g.expressionFits(bracket+1, left) {
		return 1
	}
	mark := marks.At(g.grammar, bracket)
	return g.greatest(mark) - fewest(mark) + 1
}

// fewest answers how many trees are at least in a bracket.
func fewest(opening byte) int {
	if opening == '(' || opening == '<' {
		return 1
	}
	return 0
}

func (g *guide) greatest(opening byte) int {
	if opening == '(' || opening == '[' {
		return 1
	}
	return g.most
}
