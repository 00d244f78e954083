package reducing

import (
	"regexp"
	"sort"
	"strings"
)

// The functions below tell once more, in another way, what a condition and what
// a step is. The steps are not found in a tree's text: the tree is read, and
// written anew for each step.

var conditionForm = regexp.MustCompile(`\A!?[a-z]*(,!?[a-z]*)*\z`)

func modelHolds(condition string, word string) bool {
	if condition == "" {
		return true
	}
	for _, part := range strings.Split(condition, ",") {
		letters, not := strings.CutPrefix(part, "!")
		if strings.Contains(word, letters) == not {
			return false
		}
	}
	return true
}

// An item of a tree is a single mark, or a bracket with rows of items in it, and
// the name ahead of it, if it has one.
type item struct {
	mark byte
	name byte
	rows [][]item
}

func isLetterOrDigit(mark byte) bool {
	return 'a' <= mark && mark <= 'z' || '0' <= mark && mark <= '9'
}

// readRow reads items, and answers what stands behind them.
func readRow(text string) ([]item, string) {
	var row []item
	for text != "" && !strings.ContainsAny(text[:1], ",)]}>") {
		i := item{}
		if 'A' <= text[0] && text[0] <= 'Z' {
			i.name = text[0]
			text = text[1:]
		}
		i.mark = text[0]
		text = text[1:]
		if !isLetterOrDigit(i.mark) {
			i.rows, text = readRows(text)
		}
		row = append(row, i)
	}
	return row, text
}

// readRows reads up to a bracket's end.
func readRows(text string) ([][]item, string) {
	var rows [][]item
	for {
		row, behind := readRow(text)
		if len(row) > 0 {
			rows = append(rows, row)
		}
		if behind[0] != ',' {
			return rows, behind[1:]
		}
		text = behind[1:]
	}
}

func writeRow(row []item) string {
	text := ""
	for _, i := range row {
		text += writeItem(i)
	}
	return text
}

func writeItem(i item) string {
	if isLetterOrDigit(i.mark) {
		return string(i.mark)
	}
	var rows []string
	for _, row := range i.rows {
		rows = append(rows, writeRow(row))
	}
	text := string(i.mark) + strings.Join(rows, ",") + map[byte]string{'(': ")", '[': "]", '{': "}", '<': ">"}[i.mark]
	if i.name != 0 {
		text = string(i.name) + text
	}
	return text
}

// modelSteps answers all trees that a step makes of a tree, one of several steps
// as often as they are, in the order of their texts.
func modelSteps(tree string) []string {
	row, _ := readRow(tree)
	var all []string
	for _, smaller := range rowSteps(row) {
		all = append(all, writeRow(smaller))
	}
	sort.Strings(all)
	return all
}

func rowSteps(row []item) [][]item {
	var all [][]item
	for at, i := range row {
		for _, smaller := range itemSteps(i) {
			all = append(all, replaced(row, at, smaller))
		}
	}
	return all
}

func itemSteps(i item) []item {
	var all []item
	if i.mark == '[' && len(i.rows) > 0 {
		all = append(all, item{mark: '['})
	}
	if i.mark == '{' || i.mark == '<' && len(i.rows) > 1 {
		for at := range i.rows {
			all = append(all, item{i.mark, 0, removed(i.rows, at)})
		}
	}
	if i.name != 0 {
		all = append(all, namesIn(i, i.name)...)
	}
	for at, row := range i.rows {
		for _, smaller := range rowSteps(row) {
			all = append(all, item{i.mark, i.name, replaced(i.rows, at, smaller)})
		}
	}
	return all
}

// namesIn answers all that have a name and stand within an item.
func namesIn(i item, name byte) []item {
	var all []item
	for _, row := range i.rows {
		for _, in := range row {
			if in.name == name {
				all = append(all, in)
			}
			all = append(all, namesIn(in, name)...)
		}
	}
	return all
}

func replaced[T any](list []T, at int, by T) []T {
	all := append([]T(nil), list...)
	all[at] = by
	return all
}

func removed[T any](list []T, at int) []T {
	all := append([]T(nil), list[:at]...)
	return append(all, list[at+1:]...)
}

// modelCount counts the steps of a tree as P10 says, without going them: it goes
// along the text and knows at each mark what stands around it.
func modelCount(tree string) int {
	count := 0
	around := ""         // the opening brackets and names around a place
	elements := []int{0} // of each bracket around
	for at := range tree {
		mark := tree[at]
		switch {
		case strings.IndexByte("([{<", mark) >= 0:
			name := byte('-')
			if at > 0 && 'A' <= tree[at-1] && tree[at-1] <= 'Z' {
				name = tree[at-1]
				count += strings.Count(around, string(name))
			}
			around += string(mark) + string(name)
			elements = append(elements, 0)
		case strings.IndexByte(")]}>", mark) >= 0:
			opening := around[len(around)-2]
			inside := elements[len(elements)-1]
			if opening == '[' || opening == '{' || opening == '<' && inside > 1 {
				count += inside
			}
			around = around[:len(around)-2]
			elements = elements[:len(elements)-1]
		case '0' <= mark && mark <= '9':
			elements[len(elements)-1]++
		}
	}
	return count
}

// textsUpTo answers all texts of at most so many of some bytes.
func textsUpTo(bytes string, longest int) []string {
	all := []string{""}
	last := all
	for n := 0; n < longest; n++ {
		var longer []string
		for _, text := range last {
			for i := range bytes {
				longer = append(longer, text+bytes[i:i+1])
			}
		}
		all = append(all, longer...)
		last = longer
	}
	return all
}

// lettersOf answers the word of a tree.
func lettersOf(tree string) string {
	return regexp.MustCompile(`[^a-z]+`).ReplaceAllString(tree, "")
}
