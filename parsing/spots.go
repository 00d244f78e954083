package parsing

import (
	"winnow/marks"
	"winnow/rules"
)

// A spot is what belongs to a place of the grammar. It is looked up once: to
// search the text for it at each span of the word would take long.
type spot struct {
	within int  // where the expression begins that is in a name or a bracket
	behind int  // the place behind a factor
	next   int  // the alternative behind an alternative, or rules.None
	begins bool // whether an expression begins here
}

func newSpots(grammar string) []spot {
	spots := make([]spot, len(grammar))
	for place := 0; place < len(grammar); place++ {
		spots[place] = newSpot(grammar, place)
	}
	return spots
}

func newSpot(grammar string, place int) spot {
	s := spot{within: place + 1}
	mark := marks.At(grammar, place)
	if marks.IsName(mark) {
		s.within = rules.Expression(grammar, mark)
	}
	s.behind = rules.Behind(grammar, place)
	s.next = rules.Next(grammar, place)
	ahead := marks.At(grammar, place-1)
	s.begins = ahead == '=' || marks.IsOpening(ahead)
	return s
}
