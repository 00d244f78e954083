package trees

// The model of a grammar is put together from its parts, not read from a text:
// it writes its text, and all its trees that are short enough.

type expression [][]factor

type factor struct {
	mark byte // the letter, the name, or the opening bracket
	in   expression
}

type rule struct {
	name byte
	expression
}

type model []rule

// A part is a text that is a part of a tree, and its height.
type part struct {
	text   string
	height int
}

func closing(opening byte) string {
	return map[byte]string{'(': ")", '[': "]", '{': "}", '<': ">"}[opening]
}

func (m model) text() string {
	all := ""
	for _, r := range m {
		all += string(r.name) + "=" + r.expression.text() + ";"
	}
	return all
}

func (e expression) text() string {
	all := ""
	for number, factors := range e {
		if number > 0 {
			all += "|"
		}
		for _, f := range factors {
			all += string(f.mark)
			if f.in != nil {
				all += f.in.text() + closing(f.mark)
			}
		}
	}
	return all
}

// trees answers all trees of the grammar of at most that many bytes.
func (m model) trees(most int) map[string]int {
	all := map[string]int{}
	for _, p := range m.ofName(m[0].name, most) {
		all[p.text] = p.height
	}
	return all
}

func (m model) ofName(name byte, most int) []part {
	var all []part
	for _, r := range m {
		if r.name == name {
			for _, p := range m.ofExpression(r.expression, most-3) {
				all = append(all, part{string(name) + "(" + p.text + ")", p.height + 1})
			}
		}
	}
	return all
}

func (m model) ofExpression(e expression, most int) []part {
	var all []part
	for number, factors := range e {
		if most < 1 {
			break
		}
		begun := []part{{string(rune('0' + number)), 0}}
		for _, f := range factors {
			begun = m.followed(begun, most, func(left int) []part { return m.ofFactor(f, left) })
		}
		all = append(all, begun...)
	}
	return all
}

// followed answers each of the parts with each of those behind it that still
// find room.
func (m model) followed(begun []part, most int, behind func(left int) []part) []part {
	var all []part
	for _, p := range begun {
		for _, q := range behind(most - len(p.text)) {
			all = append(all, part{p.text + q.text, max(p.height, q.height)})
		}
	}
	return all
}

func (m model) ofFactor(f factor, most int) []part {
	if f.in == nil && 'a' <= f.mark && f.mark <= 'z' {
		if most < 1 {
			return nil
		}
		return []part{{string(f.mark), 0}}
	}
	if f.in == nil {
		return m.ofName(f.mark, most)
	}
	var within []part
	if f.mark == '[' || f.mark == '{' {
		within = append(within, part{})
	}
	if f.mark == '(' || f.mark == '[' {
		within = append(within, m.ofExpression(f.in, most-2)...)
	} else {
		within = append(within, m.elements(f.in, most-2)...)
	}
	var all []part
	for _, p := range within {
		if len(p.text)+2 <= most {
			all = append(all, part{string(f.mark) + p.text + closing(f.mark), p.height})
		}
	}
	return all
}

// elements answers all rows of one element or more.
func (m model) elements(e expression, most int) []part {
	rows := m.ofExpression(e, most)
	all := rows
	for len(rows) > 0 {
		rows = m.followed(rows, most, func(left int) []part {
			var next []part
			for _, p := range m.ofExpression(e, left-1) {
				next = append(next, part{"," + p.text, p.height})
			}
			return next
		})
		all = append(all, rows...)
	}
	return all
}
