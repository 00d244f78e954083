// Package parsing: trees out of words.
//
// The grammars that are handed in here are such as rules.Check finds in order.
package parsing

import (
	"winnow/api"
	"winnow/marks"
)

// Parse answers a tree of the grammar that has a word (P8). It is one of the
// shortest: a word may have trees of which only those are within MaxTree.
func Parse(grammar string, word string) (string, api.Errno) {
	if !isWord(word) {
		return "", api.ErrWord
	}
	c := newChart(grammar, word)
	c.fill()
	// The name that begins the first rule is the start.
	if c.factor(0, 0, len(word)) > api.MaxTree {
		return "", api.ErrNot
	}
	w := writer{chart: &c}
	w.writeFactor(0, 0, len(word))
	return string(w.tree), api.OK
}

func isWord(text string) bool {
	if len(text) > api.MaxWord {
		return false
	}
	for i := 0; i < len(text); i++ {
		if !marks.IsLetter(text[i]) {
			return false
		}
	}
	return true
}
