package making

import (
	"winnow/api"
	"winnow/marks"
	"winnow/rules"
	"winnow/trees"
)

// A recaller goes along a tree of the grammar, as a maker that makes it would.
type recaller struct {
	guide   guide
	tree    string
	at      int
	choices []byte
}

// Recall answers the choices with which Make makes a tree (P7).
func Recall(grammar string, tree string, height int, most int) (string, api.Errno) {
	high, errno := trees.Height(grammar, tree)
	if errno != api.OK {
		return "", errno
	}
	if !areLimits(height, most) {
		return "", api.ErrArg
	}
	if high > height || trees.MostElements(tree) > most {
		return "", api.ErrHeight
	}
	r := recaller{guide: newGuide(grammar, most), tree: tree}
	// The name that begins the first rule is the start.
	r.recallFactor(0, height)
	return string(r.choices), api.OK
}

// note notes the way that was gone, if there was another.
func (r *recaller) note(ways int, way int) {
	if ways > 1 {
		r.choices = append(r.choices, byte('0'+way))
	}
}

// recallExpression takes a digit before it goes deeper: that ends the recursion.
func (r *recaller) recallExpression(expression int, left int) {
	digit := marks.At(r.tree, r.at)
	if !marks.IsDigit(digit) {
		return
	}
	r.at++
	number := int(digit - '0')
	ways := r.guide.alternatives(expression, left, api.MaxAlts)
	way := r.guide.alternatives(expression, left, number)
	r.note(ways, way)
	factor := rules.Alternative(r.guide.grammar, expression, number)
	for rules.IsFactor(r.guide.grammar, factor) {
		r.recallFactor(factor, left)
		factor = rules.Behind(r.guide.grammar, factor)
	}
}

func (r *recaller) recallFactor(factor int, left int) {
	mark := marks.At(r.guide.grammar, factor)
	r.at++
	if marks.IsName(mark) {
		r.recallName(mark, left)
	}
	if marks.IsOpening(mark) {
		r.recallBracket(factor, left)
	}
}

// recallName goes along what stands behind a name.
func (r *recaller) recallName(name byte, left int) {
	expression := rules.Expression(r.guide.grammar, name)
	r.at++
	r.recallExpression(expression, left-1)
	r.at++
}

// recallBracket goes along what stands behind an opening bracket.
func (r *recaller) recallBracket(bracket int, left int) {
	opening := marks.At(r.guide.grammar, bracket)
	count := trees.Elements(r.tree, r.at-1)
	ways := r.guide.counts(bracket, left)
	r.note(ways, count-fewest(opening))
	for n := 0; n < count; n++ {
		if n > 0 {
			r.at++
		}
		r.recallExpression(bracket+1, left)
	}
	r.at++
}
