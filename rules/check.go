// Package rules: whether a text is a grammar, and where its parts stand.
//
// A grammar is not turned into anything else: it stays the text, and a place in
// the text stands for the rule, the expression or the factor that begins there.
package rules

import (
	"winnow/api"
	"winnow/marks"
)

// Check tells whether a text is a grammar (P3): OK and 0, or why not, and where.
func Check(grammar string) (api.Errno, int) {
	if len(grammar) > api.MaxText {
		return api.ErrLong, 0
	}
	errno, place := checkForm(grammar)
	if errno != api.OK {
		return errno, place
	}
	errno, place = checkTwice(grammar)
	if errno != api.OK {
		return errno, place
	}
	return checkNames(grammar)
}

func checkForm(grammar string) (api.Errno, int) {
	r := reader{}
	for i := 0; i < len(grammar); i++ {
		errno := r.read(grammar[i])
		if errno != api.OK {
			return errno, i
		}
	}
	if len(grammar) == 0 || r.wants != wantsName {
		return api.ErrForm, len(grammar)
	}
	return api.OK, 0
}

func checkTwice(grammar string) (api.Errno, int) {
	for i := 0; i < len(grammar); i++ {
		if beginsRule(grammar, i) && firstRule(grammar, grammar[i]) != i {
			return api.ErrTwice, i
		}
	}
	return api.OK, 0
}

// checkNames need not leave out the names that begin rules: they have a rule.
func checkNames(grammar string) (api.Errno, int) {
	for i := 0; i < len(grammar); i++ {
		if marks.IsName(grammar[i]) && firstRule(grammar, grammar[i]) == None {
			return api.ErrName, i
		}
	}
	return api.OK, 0
}
