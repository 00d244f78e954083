// Package reducing: small trees out of great ones.
//
// The grammars that are handed in here are such as rules.Check finds in order.
package reducing

import (
	"winnow/api"
	"winnow/trees"
)

// further is why a walk has not ended.
const further = 0

// A walk is a way that is being gone.
type walk struct {
	condition string
	budget    int
	asked     int
	way       []byte
	tree      string // the last one on the way
	place     int    // where the last step changed the tree
}

// Reduce makes a tree smaller, step by step, as long as a condition holds for
// its word. It answers the way, how often the condition was asked, and why the
// way ended (P9).
func Reduce(grammar string, tree string, condition string, budget int) (string, int, int, api.Errno) {
	_, errno := trees.Height(grammar, tree)
	if errno != api.OK {
		return "", 0, 0, errno
	}
	if !isCondition(condition) {
		return "", 0, 0, api.ErrCondition
	}
	if budget < 0 || budget > api.MaxBudget {
		return "", 0, 0, api.ErrArg
	}
	word := trees.Word(tree)
	if !holds(condition, word) {
		return "", 0, 0, api.ErrFails
	}
	w := walk{condition: condition, budget: budget, way: []byte(tree), tree: tree}
	why := further
	// Each step makes the tree shorter, so there is a last one.
	for why == further {
		why = w.walkOn()
	}
	return string(w.way), w.asked, why, api.OK
}

// walkOn goes to the first tree a step away for whose word the condition holds,
// or answers why the way ends here. A step that did not help the tree ahead
// seldom helps this one, so those behind the last change are asked first.
func (w *walk) walkOn() int {
	steps := stepsOf(w.tree)
	first := firstFrom(steps, w.place)
	for n := 0; n < len(steps); n++ {
		if w.asked >= w.budget {
			return api.Spent
		}
		s := steps[(first+n)%len(steps)]
		smaller := s.of(w.tree)
		if w.ask(smaller) {
			w.take(smaller, s.from)
			return further
		}
	}
	return api.Done
}

// firstFrom answers the number of the first step that changes nothing ahead of a
// place, or how many steps there are.
func firstFrom(steps []step, place int) int {
	number := 0
	for number < len(steps) && steps[number].from < place {
		number++
	}
	return number
}

func (w *walk) ask(tree string) bool {
	w.asked++
	word := trees.Word(tree)
	return holds(w.condition, word)
}

func (w *walk) take(tree string, place int) {
	w.way = append(w.way, '\n')
	w.way = append(w.way, tree...)
	w.tree = tree
	w.place = place
}
