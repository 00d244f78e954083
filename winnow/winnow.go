// Package winnow: words out of a grammar, trees out of words, and small trees out of great ones: see DOC.md.
package winnow

import (
	"winnow/api"
	"winnow/making"
	"winnow/parsing"
	"winnow/reducing"
	"winnow/rules"
	"winnow/trees"
)

// Check tells whether a text is a grammar (P3).
func Check(grammar string) (api.Errno, int) { return rules.Check(grammar) }

// Height tells how high a tree is (P4).
func Height(grammar string, tree string) (int, api.Errno) {
	errno, _ := rules.Check(grammar)
	if errno != api.OK {
		return 0, errno
	}
	return trees.Height(grammar, tree)
}

// Make makes a tree as choices tell (P5, P6).
func Make(grammar string, choices string, height int, most int) (string, api.Errno) {
	errno, _ := rules.Check(grammar)
	if errno != api.OK {
		return "", errno
	}
	return making.Make(grammar, choices, height, most)
}

// Recall tells the choices that make a tree (P7).
func Recall(grammar string, tree string, height int, most int) (string, api.Errno) {
	errno, _ := rules.Check(grammar)
	if errno != api.OK {
		return "", errno
	}
	return making.Recall(grammar, tree, height, most)
}

// Parse finds a tree of a word (P8).
func Parse(grammar string, word string) (string, api.Errno) {
	errno, _ := rules.Check(grammar)
	if errno != api.OK {
		return "", errno
	}
	return parsing.Parse(grammar, word)
}

// Reduce makes a tree smaller, step by step (P9, P10).
func Reduce(grammar string, tree string, condition string, budget int) (string, int, int, api.Errno) {
	errno, _ := rules.Check(grammar)
	if errno != api.OK {
		return "", 0, 0, errno
	}
	return reducing.Reduce(grammar, tree, condition, budget)
}
