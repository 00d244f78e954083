package making

import (
	"strings"

	"winnow/api"
)

// A model is a grammar taken apart. It tells P5 to P7 once more, in another
// way: whether there is a tree that fits it finds from the top down, and it
// keeps the choices beside the tree that they make.
type model struct {
	start byte
	rules map[byte]expression
	known map[question]bool
}

type expression [][]factor

type factor struct {
	mark byte // the letter, the name, or the opening bracket
	in   expression
}

type question struct {
	name byte
	left int
}

func newModel(grammar string) *model {
	m := &model{start: grammar[0], rules: map[byte]expression{}, known: map[question]bool{}}
	for _, rule := range strings.Split(strings.TrimSuffix(grammar, ";"), ";") {
		e, _ := takeApart(rule[2:])
		m.rules[rule[0]] = e
	}
	return m
}

// takeApart answers an expression, and what stands behind the bracket that
// ends it.
func takeApart(text string) (expression, string) {
	e := expression{nil}
	for text != "" {
		mark := text[0]
		text = text[1:]
		f := factor{mark: mark}
		switch {
		case strings.IndexByte(")]}>", mark) >= 0:
			return e, text
		case mark == '|':
			e = append(e, nil)
			continue
		case strings.IndexByte("([{<", mark) >= 0:
			f.in, text = takeApart(text)
		}
		e[len(e)-1] = append(e[len(e)-1], f)
	}
	return e, ""
}

func (m *model) fits(e expression, left int) bool {
	return len(m.fitting(e, left)) > 0
}

// fitting answers the numbers of the alternatives with a tree that fits.
func (m *model) fitting(e expression, left int) []int {
	var numbers []int
	for number, factors := range e {
		all := true
		for _, f := range factors {
			all = all && m.factorFits(f, left)
		}
		if all {
			numbers = append(numbers, number)
		}
	}
	return numbers
}

func (m *model) factorFits(f factor, left int) bool {
	switch {
	case f.mark == '(' || f.mark == '<':
		return m.fits(f.in, left)
	case f.mark < 'A' || f.mark > 'Z':
		return true
	case left == 0:
		return false
	}
	q := question{f.mark, left - 1}
	answer, known := m.known[q]
	if !known {
		answer = m.fits(m.rules[f.mark], left-1)
		m.known[q] = answer
	}
	return answer
}

// sizes answers how many trees may stand in a bracket.
func (m *model) sizes(f factor, left int, most int) []int {
	switch {
	case f.mark == '(':
		return []int{1}
	case !m.fits(f.in, left):
		return []int{0}
	case f.mark == '[':
		return []int{0, 1}
	}
	all := []int{0, 1, 2, 3, 4, 5}[:most+1]
	if f.mark == '<' {
		return all[1:]
	}
	return all
}

func closing(opening byte) string {
	return map[byte]string{'(': ")", '[': "]", '{': "}", '<': ">"}[opening]
}

// A scribe writes a tree, and beside it the ways that were gone.
type scribe struct {
	*model
	most    int
	choices string          // those that are not taken yet
	tree    strings.Builder // what is made
	ways    strings.Builder // the numbers of the ways that were gone
}

// makeTree makes a tree and answers it with its choices.
func (m *model) makeTree(choices string, height int, most int) (string, string, api.Errno) {
	if !m.fits(m.rules[m.start], height-1) {
		return "", "", api.ErrHeight
	}
	made := scribe{model: m, most: most, choices: choices}
	made.name(m.start, height)
	if made.tree.Len() > 2000 {
		return "", "", api.ErrBig
	}
	return made.tree.String(), made.ways.String(), api.OK
}

func (m *scribe) choose(ways []int) int {
	if len(ways) == 1 {
		return ways[0]
	}
	way := 0
	if m.choices != "" {
		way = int(m.choices[0]-'0') % len(ways)
		m.choices = m.choices[1:]
	}
	m.ways.WriteByte("0123456789"[way])
	return ways[way]
}

func (m *scribe) name(name byte, height int) {
	m.tree.WriteString(string(name) + "(")
	m.expression(m.rules[name], height-1)
	m.tree.WriteString(")")
}

func (m *scribe) expression(e expression, left int) {
	if m.tree.Len() > 2000 {
		return
	}
	number := m.choose(m.fitting(e, left))
	m.tree.WriteByte("0123456789"[number])
	for _, f := range e[number] {
		switch {
		case 'A' <= f.mark && f.mark <= 'Z':
			m.name(f.mark, left)
		case 'a' <= f.mark && f.mark <= 'z':
			m.tree.WriteByte(f.mark)
		default:
			m.bracket(f, left)
		}
	}
}

func (m *scribe) bracket(f factor, left int) {
	m.tree.WriteByte(f.mark)
	for n := m.choose(m.sizes(f, left, m.most)); n > 0; n-- {
		m.expression(f.in, left)
		if n > 1 {
			m.tree.WriteString(",")
		}
	}
	m.tree.WriteString(closing(f.mark))
}

// all answers all trees within the limits, in the order of the ways: where two
// of them part, the one with the lesser way stands ahead.
func (m *model) all(height int, most int) []string {
	return m.allOfName(m.start, height, most)
}

func (m *model) allOfName(name byte, height int, most int) []string {
	if height == 0 {
		return nil
	}
	return joined([]string{string(name) + "("}, m.allOfExpression(m.rules[name], height-1, most), []string{")"})
}

func (m *model) allOfExpression(e expression, left int, most int) []string {
	var all []string
	for number, factors := range e {
		begun := []string{"0123456789"[number : number+1]}
		for _, f := range factors {
			begun = joined(begun, m.allOfFactor(f, left, most))
		}
		all = append(all, begun...)
	}
	return all
}

func (m *model) allOfFactor(f factor, left int, most int) []string {
	longest := most
	switch {
	case 'A' <= f.mark && f.mark <= 'Z':
		return m.allOfName(f.mark, left, most)
	case 'a' <= f.mark && f.mark <= 'z':
		return []string{string(f.mark)}
	case f.mark == '(' || f.mark == '[':
		longest = 1
	}
	one := m.allOfExpression(f.in, left, most)
	var all []string
	if f.mark == '[' || f.mark == '{' {
		all = append(all, "")
	}
	rows := one
	for n := 1; n <= longest; n++ {
		all = append(all, rows...)
		rows = joined(rows, []string{","}, one)
	}
	return joined([]string{string(f.mark)}, all, []string{closing(f.mark)})
}

// joined answers each text of the first row with each of the second behind it,
// and so on.
func joined(rows ...[]string) []string {
	all := []string{""}
	for _, row := range rows {
		var longer []string
		for _, text := range all {
			for _, more := range row {
				longer = append(longer, text+more)
			}
		}
		all = longer
	}
	return all
}
