// Package trees: the trees of a grammar.
//
// The grammars that are handed in here are such as rules.Check finds in order.
package trees

import (
	"winnow/api"
	"winnow/marks"
	"winnow/rules"
)

// none is where a part ends that is not there. Nothing can stand at it or be
// read from it on, so it goes through to the end by itself.
const none = -1

// Height answers the height of a tree of the grammar (P4).
func Height(grammar string, tree string) (int, api.Errno) {
	if len(tree) > api.MaxTree {
		return 0, api.ErrTree
	}
	// The name that begins the first rule is the start.
	end, height := readName(grammar, 0, tree, 0)
	if end != len(tree) {
		return 0, api.ErrTree
	}
	return height, api.OK
}

// Each of the functions below reads the part of the tree that begins at `at`,
// and answers where it ends, or none, and its height.

// readExpression takes a digit before it goes deeper: that ends the recursion.
func readExpression(grammar string, expression int, tree string, at int) (int, int) {
	digit := marks.At(tree, at)
	if !marks.IsDigit(digit) {
		return none, 0
	}
	place := rules.Alternative(grammar, expression, int(digit-'0'))
	if place == rules.None {
		return none, 0
	}
	return readFactors(grammar, place, tree, at+1)
}

func readFactors(grammar string, factor int, tree string, at int) (int, int) {
	end := at
	greatest := 0
	for end != none && rules.IsFactor(grammar, factor) {
		next, height := readFactor(grammar, factor, tree, end)
		end = next
		greatest = greater(greatest, height)
		factor = rules.Behind(grammar, factor)
	}
	return end, greatest
}

func readFactor(grammar string, factor int, tree string, at int) (int, int) {
	mark := marks.At(grammar, factor)
	if marks.At(tree, at) != mark {
		return none, 0
	}
	if marks.IsLetter(mark) {
		return at + 1, 0
	}
	if marks.IsName(mark) {
		return readName(grammar, factor, tree, at)
	}
	if mark == '(' {
		return readBracket(grammar, factor+1, tree, at)
	}
	if mark == '[' {
		return readOption(grammar, factor, tree, at)
	}
	return readList(grammar, factor, tree, at)
}

func readName(grammar string, factor int, tree string, at int) (int, int) {
	name := marks.At(grammar, factor)
	if marks.At(tree, at) != name || marks.At(tree, at+1) != '(' {
		return none, 0
	}
	expression := rules.Expression(grammar, name)
	end, height := readBracket(grammar, expression, tree, at+1)
	return end, height + 1
}

// readBracket reads one tree of an expression and the brackets around it, of
// which the opening one is known to stand there.
func readBracket(grammar string, expression int, tree string, at int) (int, int) {
	end, height := readExpression(grammar, expression, tree, at+1)
	return closeBracket(tree, at, end), height
}

func readOption(grammar string, factor int, tree string, at int) (int, int) {
	if marks.At(tree, at+1) == ']' {
		return at + 2, 0
	}
	return readBracket(grammar, factor+1, tree, at)
}

func readList(grammar string, factor int, tree string, at int) (int, int) {
	if marks.At(tree, at) == '{' && marks.At(tree, at+1) == '}' {
		return at + 2, 0
	}
	end, height := readElements(grammar, factor+1, tree, at+1)
	return closeBracket(tree, at, end), height
}

func readElements(grammar string, expression int, tree string, at int) (int, int) {
	end, greatest := readExpression(grammar, expression, tree, at)
	for marks.At(tree, end) == ',' {
		next, height := readExpression(grammar, expression, tree, end+1)
		end = next
		greatest = greater(greatest, height)
	}
	return end, greatest
}

// closeBracket answers the place behind the bracket that has to stand at `end`
// and closes the one at `opening`, or none.
func closeBracket(tree string, opening int, end int) int {
	closing := marks.Closing(marks.At(tree, opening))
	if end == none || marks.At(tree, end) != closing {
		return none
	}
	return end + 1
}

func greater(a int, b int) int {
	if a > b {
		return a
	}
	return b
}
