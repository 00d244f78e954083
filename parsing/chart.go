package parsing

import (
	"winnow/api"
	"winnow/marks"
	"winnow/rules"
)

// What stands around the trees in a factor.
const (
	bracketBytes = 2
	nameBytes    = 3 // with its brackets
)

// A chart finds how many bytes the parts of trees have at least, for each span
// of the word and each place of the grammar.
type chart struct {
	grammar     string
	word        string
	spots       []spot
	rests       table // the factors of an alternative from a place on
	expressions table // a tree of an expression
	rows        table // one tree of an expression or more, with `,` between
}

func newChart(grammar string, word string) chart {
	return chart{
		grammar:     grammar,
		word:        word,
		spots:       newSpots(grammar),
		rests:       newTable(grammar, word),
		expressions: newTable(grammar, word),
		rows:        newTable(grammar, word),
	}
}

// spot answers what belongs to a place. Every place that is asked for lies in
// the grammar.
func (c *chart) spot(place int) spot {
	if place < 0 || place >= len(c.spots) {
		return spot{}
	}
	return c.spots[place]
}

// fill goes from short spans to long ones: a part is put together from parts
// over the same span or over shorter ones.
func (c *chart) fill() {
	for letters := 0; letters <= len(c.word); letters++ {
		for from := 0; from+letters <= len(c.word); from++ {
			c.settle(from, from+letters)
		}
	}
}

// settle goes over the grammar until nothing over the span gets shorter. That
// has an end, for no part has less than no bytes.
func (c *chart) settle(from int, to int) {
	shorter := true
	for shorter {
		shorter = c.goOver(from, to)
	}
}

// goOver goes backwards, since parts are put together from such as stand
// behind them in the grammar. Only the expression of a name may stand ahead of
// it: where one got shorter, once is not enough.
func (c *chart) goOver(from int, to int) bool {
	shorter := false
	for place := len(c.grammar) - 1; place >= 0; place-- {
		bytes, _ := c.rest(place, from, to)
		c.rests.lower(place, from, to, bytes)
		s := c.spot(place)
		if s.begins && c.lowerExpression(place, from, to) {
			shorter = true
		}
	}
	return shorter
}

// lowerExpression finds the row of an expression too, in case that it stands
// in a list, and tells whether the expression got shorter.
func (c *chart) lowerExpression(expression int, from int, to int) bool {
	bytes, _ := c.expression(expression, from, to)
	shorter := c.expressions.lower(expression, from, to, bytes)
	bytes, _ = c.row(expression, from, to)
	c.rows.lower(expression, from, to, bytes)
	return shorter
}

// factor answers how many bytes a factor has at least.
func (c *chart) factor(place int, from int, to int) int {
	mark := marks.At(c.grammar, place)
	if marks.IsLetter(mark) {
		return c.letter(mark, from, to)
	}
	within := c.spot(place).within
	if marks.IsName(mark) {
		return c.expressions.least(within, from, to) + nameBytes
	}
	if mayBeEmpty(mark) && from == to {
		return bracketBytes
	}
	if isList(mark) {
		return c.rows.least(within, from, to) + bracketBytes
	}
	return c.expressions.least(within, from, to) + bracketBytes
}

func (c *chart) letter(letter byte, from int, to int) int {
	if to == from+1 && marks.At(c.word, from) == letter {
		return 1
	}
	return tooMany
}

func mayBeEmpty(opening byte) bool {
	return opening == '[' || opening == '{'
}

func isList(opening byte) bool {
	return opening == '{' || opening == '<'
}

// Each of the functions below answers how many bytes a part has at least, and
// what to choose for it to have no more.

// rest chooses where the first factor's span ends.
func (c *chart) rest(place int, from int, to int) (int, int) {
	if !rules.IsFactor(c.grammar, place) {
		return noFactors(from, to), to
	}
	behind := c.spot(place).behind
	least := tooMany
	chosen := to
	for end := from; end <= to; end++ {
		first := c.factor(place, from, end)
		bytes := first + c.rests.least(behind, end, to)
		if bytes < least {
			least = bytes
			chosen = end
		}
	}
	return least, chosen
}

// noFactors answers how many bytes no factors have, whose word is empty.
func noFactors(from int, to int) int {
	if from == to {
		return 0
	}
	return tooMany
}

// expression chooses the number of the alternative.
func (c *chart) expression(place int, from int, to int) (int, int) {
	least := tooMany
	chosen := 0
	alternative := place
	for number := 0; number < api.MaxAlts && alternative != rules.None; number++ {
		bytes := c.rests.least(alternative, from, to) + 1
		if bytes < least {
			least = bytes
			chosen = number
		}
		alternative = c.spot(alternative).next
	}
	return least, chosen
}

// row chooses where the first element's span ends. None of several elements
// has an empty span: without it the row is shorter.
func (c *chart) row(expression int, from int, to int) (int, int) {
	least := c.expressions.least(expression, from, to)
	chosen := to
	for end := from + 1; end < to; end++ {
		first := c.expressions.least(expression, from, end)
		bytes := first + 1 + c.rows.least(expression, end, to)
		if bytes < least {
			least = bytes
			chosen = end
		}
	}
	return least, chosen
}
