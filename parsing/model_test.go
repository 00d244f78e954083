package parsing

import "strings"

// A model tells P8 once more, in another way. The grammar becomes plain
// productions whose sentences are its trees, brackets and digits with them, and
// from those grow, from the bottom up, all words that are short enough, each
// with how many bytes its shortest tree has.
type model struct {
	lexicon     *lexicon
	productions [][][]item
	bytes       [][]int      // of each symbol, each word's, or none
	rules       map[byte]int // the symbol of each name's expression
}

// An item is a text that stands in the tree, or a symbol.
type item struct {
	text   string
	symbol int
}

const none = 2001

// A lexicon numbers all words of some letters that are short enough, the empty
// one first, and tells which one two of them are, one behind the other, or -1.
type lexicon struct {
	words  []string
	number map[string]int
	joined [][]int
}

func newLexicon(letters string, longest int) *lexicon {
	l := &lexicon{words: wordsUpTo(letters, longest), number: map[string]int{}}
	for n, word := range l.words {
		l.number[word] = n
	}
	for _, word := range l.words {
		var row []int
		for _, behind := range l.words {
			n, is := l.number[word+behind]
			if !is {
				n = -1
			}
			row = append(row, n)
		}
		l.joined = append(l.joined, row)
	}
	return l
}

// wordsUpTo answers all words of at most so many letters.
func wordsUpTo(letters string, longest int) []string {
	all := []string{""}
	last := all
	for n := 0; n < longest; n++ {
		var longer []string
		for _, word := range last {
			for i := range letters {
				longer = append(longer, word+letters[i:i+1])
			}
		}
		all = append(all, longer...)
		last = longer
	}
	return all
}

// shortest answers for each word of the lexicon how many bytes the shortest
// tree of a grammar has, or 0.
func shortest(grammar string, l *lexicon) []int {
	m := &model{lexicon: l, rules: map[byte]int{}}
	rules := strings.Split(strings.TrimSuffix(grammar, ";"), ";")
	for _, rule := range rules {
		m.rules[rule[0]] = m.symbol()
	}
	for _, rule := range rules {
		m.add(m.rules[rule[0]], rule[2:])
	}
	for m.grow() {
	}
	all := m.bytes[m.rules[grammar[0]]]
	for n := range all {
		all[n] += 3
		if all[n] > 2000 {
			all[n] = 0
		}
	}
	return all
}

func (m *model) symbol() int {
	m.productions = append(m.productions, nil)
	m.bytes = append(m.bytes, m.nothing())
	return len(m.bytes) - 1
}

func (m *model) produce(symbol int, items ...item) {
	m.productions[symbol] = append(m.productions[symbol], items)
}

// add makes an expression's productions, and answers what stands behind it.
func (m *model) add(symbol int, text string) string {
	alternatives := 0
	for {
		items := []item{{text: string(rune('0' + alternatives))}}
		for text != "" && strings.IndexByte("|)]}>", text[0]) < 0 {
			mark := text[0]
			text = text[1:]
			switch {
			case 'a' <= mark && mark <= 'z':
				items = append(items, item{text: string(mark)})
			case 'A' <= mark && mark <= 'Z':
				items = append(items, item{text: string(mark) + "("}, item{symbol: m.rules[mark]}, item{text: ")"})
			default:
				in := m.symbol()
				text = m.add(in, text)
				items = append(items, item{symbol: m.bracket(mark, in)})
			}
		}
		m.produce(symbol, items...)
		if text == "" {
			return ""
		}
		mark := text[0]
		text = text[1:]
		if mark != '|' {
			return text
		}
		alternatives++
	}
}

// bracket makes the productions of a bracket around an expression.
func (m *model) bracket(mark byte, in int) int {
	whole, row := m.symbol(), m.symbol()
	closing := map[byte]string{'(': ")", '[': "]", '{': "}", '<': ">"}[mark]
	m.produce(row, item{symbol: in})
	if mark == '{' || mark == '<' {
		m.produce(row, item{symbol: row}, item{text: ","}, item{symbol: in})
	}
	if mark == '{' || mark == '[' {
		m.produce(whole, item{text: string(mark) + closing})
	}
	m.produce(whole, item{text: string(mark)}, item{symbol: row}, item{text: closing})
	return whole
}

func (m *model) nothing() []int {
	all := make([]int, len(m.lexicon.words))
	for n := range all {
		all[n] = none
	}
	return all
}

// grow tells whether a word was found, or a shorter tree for one.
func (m *model) grow() bool {
	grown := false
	for symbol := len(m.productions) - 1; symbol >= 0; symbol-- {
		for _, items := range m.productions[symbol] {
			for n, bytes := range m.sentences(items) {
				if bytes < m.bytes[symbol][n] {
					m.bytes[symbol][n] = bytes
					grown = true
				}
			}
		}
	}
	return grown
}

func (m *model) sentences(items []item) []int {
	all := m.nothing()
	all[0] = 0
	for _, i := range items {
		more := m.bytes[i.symbol]
		if i.text != "" {
			more = m.nothing()
			more[m.lexicon.number[lettersOf(i.text)]] = len(i.text)
		}
		all = m.joined(all, more)
	}
	return all
}

func (m *model) joined(ahead []int, behind []int) []int {
	all := m.nothing()
	for i := range ahead {
		for j := 0; j < len(behind) && ahead[i] < none; j++ {
			n := m.lexicon.joined[i][j]
			if n >= 0 && ahead[i]+behind[j] < all[n] {
				all[n] = ahead[i] + behind[j]
			}
		}
	}
	return all
}

// lettersOf answers the word of a tree.
func lettersOf(tree string) string {
	return strings.Map(func(mark rune) rune {
		if mark < 'a' || mark > 'z' {
			return -1
		}
		return mark
	}, tree)
}
