package parsing

import (
	"winnow/marks"
	"winnow/rules"
)

// A writer writes a tree with as few bytes as the chart tells. Whatever it goes
// into has fewer bytes than what is around it: that ends the recursion.
type writer struct {
	chart *chart
	tree  []byte
}

func (w *writer) write(mark byte) {
	w.tree = append(w.tree, mark)
}

func (w *writer) writeFactor(place int, from int, to int) {
	mark := marks.At(w.chart.grammar, place)
	w.write(mark)
	if marks.IsName(mark) {
		w.write('(')
		w.writeWithin(place, from, to)
		w.write(')')
	}
	if marks.IsOpening(mark) {
		w.writeWithin(place, from, to)
		w.write(marks.Closing(mark))
	}
}

// writeWithin writes what is in a name or in a bracket.
func (w *writer) writeWithin(place int, from int, to int) {
	mark := marks.At(w.chart.grammar, place)
	within := w.chart.spot(place).within
	if mayBeEmpty(mark) && from == to {
		return
	}
	if isList(mark) {
		w.writeRow(within, from, to)
		return
	}
	w.writeExpression(within, from, to)
}

func (w *writer) writeRow(expression int, from int, to int) {
	_, end := w.chart.row(expression, from, to)
	w.writeExpression(expression, from, end)
	if end < to {
		w.write(',')
		w.writeRow(expression, end, to)
	}
}

func (w *writer) writeExpression(expression int, from int, to int) {
	_, number := w.chart.expression(expression, from, to)
	w.write(byte('0' + number))
	place := rules.Alternative(w.chart.grammar, expression, number)
	for rules.IsFactor(w.chart.grammar, place) {
		_, end := w.chart.rest(place, from, to)
		w.writeFactor(place, from, end)
		from = end
		place = w.chart.spot(place).behind
	}
}
