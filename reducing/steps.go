package reducing

import "winnow/marks"

// A step leaves of a tree what stands ahead of one place, what stands between
// two others, and what stands from a last one on.
type step struct {
	from int
	keep int
	kept int
	to   int
}

// of answers the tree that the step makes.
func (s step) of(tree string) string {
	if s.from < 0 || s.from > s.keep || s.keep > s.kept || s.kept > s.to || s.to > len(tree) {
		return tree
	}
	return tree[:s.from] + tree[s.keep:s.kept] + tree[s.to:]
}

// cut is the step that leaves nothing between two places.
func cut(from int, to int) step {
	return step{from, to, to, to}
}

// A finder finds the steps of a tree.
type finder struct {
	tree  string
	ends  []int // where the part ends that begins at a place
	steps []step
}

// stepsOf answers the steps of a tree (P10), in the order in which what they
// change begins.
func stepsOf(tree string) []step {
	f := finder{tree: tree, ends: endsOf(tree)}
	for i := 0; i < len(tree); i++ {
		mark := tree[i]
		if mark == '[' {
			f.findOption(i)
		}
		if marks.IsName(mark) {
			f.findNames(i)
		}
		if marks.IsDigit(mark) {
			f.findElement(i)
		}
	}
	return f.steps
}

// endsOf answers for each place of a tree where a bracket ends that opens
// there. What is no bracket ends behind itself, and so does one that nothing
// closes: who goes on from end to end comes to the end of the text.
func endsOf(tree string) []int {
	ends := make([]int, len(tree))
	open := make([]int, 0)
	for i := 0; i < len(tree); i++ {
		ends[i] = i + 1
		if marks.IsOpening(tree[i]) {
			open = append(open, i)
		}
		last := len(open) - 1
		if marks.IsClosing(tree[i]) && last >= 0 {
			ends[open[last]] = i + 1
			open = open[:last]
		}
	}
	return ends
}

func (f *finder) end(place int) int {
	if place < 0 || place >= len(f.ends) {
		return len(f.tree)
	}
	return f.ends[place]
}

func (f *finder) add(s step) {
	f.steps = append(f.steps, s)
}

func (f *finder) findOption(opening int) {
	closing := f.end(opening) - 1
	if closing > opening+1 {
		f.add(cut(opening+1, closing))
	}
}

// findElement finds the step in which what begins with a digit goes away, if it
// is an element: nothing else has a comma beside it or a list's bracket ahead.
func (f *finder) findElement(digit int) {
	ahead := marks.At(f.tree, digit-1)
	end := f.elementEnd(digit)
	switch {
	case ahead == ',':
		f.add(cut(digit-1, end))
	case marks.At(f.tree, end) == ',':
		f.add(cut(digit, end+1))
	case ahead == '{':
		f.add(cut(digit, end))
	}
}

func (f *finder) elementEnd(digit int) int {
	end := digit
	for end < len(f.tree) && f.tree[end] != ',' && !marks.IsClosing(f.tree[end]) {
		end = f.end(end)
	}
	return end
}

// findNames finds the steps that put a name in the place of one around it. The
// last one that is written comes first: of names within one another that is the
// innermost, which leaves the least.
func (f *finder) findNames(outer int) {
	name := marks.At(f.tree, outer)
	end := f.end(outer + 1)
	for inner := end - 1; inner > outer; inner-- {
		if marks.At(f.tree, inner) == name {
			kept := f.end(inner + 1)
			f.add(step{outer, inner, kept, end})
		}
	}
}
