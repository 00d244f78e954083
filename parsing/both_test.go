package parsing

import (
	"strings"
	"testing"

	"winnow/api"
	"winnow/making"
	"winnow/rules"
)

// dice are numbers that look as if they were thrown, and are the same each time.
type dice uint64

func (d *dice) throw(n int) int {
	*d = *d*6364136223846793005 + 1442695040888963407
	return int(uint64(*d)>>33) % n
}

// one answers a byte of a text.
func (d *dice) one(text string) string {
	at := d.throw(len(text))
	return text[at : at+1]
}

// writeGrammar writes a grammar whose rules stand in any order.
func (d *dice) writeGrammar() string {
	names := "SABCD"[:1+d.throw(5)]
	at := d.throw(len(names))
	names = names[at:] + names[:at]
	text := ""
	for _, name := range names {
		text += string(name) + "=" + d.writeExpression(names, 0) + ";"
	}
	return text
}

func (d *dice) writeExpression(names string, deep int) string {
	text := ""
	for n := 1 + d.throw(6); n > 0; n-- {
		switch kind := d.throw(14); {
		case kind < 4 && deep < 5:
			text += "([{<"[kind:kind+1] + d.writeExpression(names, deep+1) + ")]}>"[kind:kind+1]
		case kind < 7:
			text += "|"
		case kind < 11:
			text += d.one(names)
		default:
			text += d.one("ab")
		}
	}
	return text
}

// goodGrammar answers one that is in order.
func (d *dice) goodGrammar() string {
	for {
		grammar := d.writeGrammar()
		if errno, _ := rules.Check(grammar); errno == api.OK {
			return grammar
		}
	}
}

// Parse finds a tree just where the model knows one, and none that is longer.
func TestParseAsTheModel(t *testing.T) {
	d := dice(1)
	l := newLexicon("ab", 4)
	found, missing, high := 0, 0, 0
	for n := 0; n < 1500; n++ {
		grammar := d.goodGrammar()
		for number, bytes := range shortest(grammar, l) {
			word := l.words[number]
			tree := parseOne(t, grammar, word, bytes > 0)
			if len(tree) != bytes {
				t.Fatalf("Parse(%q, %q) = %q of %d bytes, and %d would do", grammar, word, tree, len(tree), bytes)
			}
			if bytes > 0 {
				found++
			} else {
				missing++
			}
			if strings.Count(tree, "(") > 3 {
				high++
			}
		}
	}
	if found < 5000 || missing < 10000 || high < 3000 {
		t.Errorf("too few of a kind: %d with a tree, %d without, %d with many brackets", found, missing, high)
	}
}

// The word of a tree that was made has a tree, and one that is no longer.
func TestParseWordsOfTreesThatWereMade(t *testing.T) {
	d := dice(2)
	lengths := [api.MaxWord + 1]int{}
	for n := 0; n < 9000; n++ {
		grammar := d.goodGrammar()
		choices := ""
		for more := d.throw(60); more > 0; more-- {
			choices += d.one("01234")
		}
		made, errno := making.Make(grammar, choices, 2+d.throw(8), 1+d.throw(5))
		word := lettersOf(made)
		if errno != api.OK || len(word) > api.MaxWord {
			continue
		}
		lengths[len(word)]++
		if tree := parseOne(t, grammar, word, true); len(tree) > len(made) {
			t.Fatalf("Parse(%q, %q) = %q, and %q is shorter", grammar, word, tree, made)
		}
	}
	for letters, count := range lengths {
		if count < 5 {
			t.Errorf("too few words of %d letters: %v", letters, lengths)
		}
	}
}

// Of some grammars it is known which words they have.
func TestParseAllShortWords(t *testing.T) {
	for _, c := range []struct {
		grammar string
		letters string
		longest int
		is      func(word string) bool
	}{
		{"S=aSa|bSb|a|b|;", "ab", 8, isPalindrome},
		{"S={aSb};", "ab", 9, isBalanced},
		{"S=|SS|aSb;", "ab", 9, isBalanced},
		{"S=[aSbS];", "ab", 8, isBalanced},
		{"S=A;A=aAb|;", "ab", 8, func(word string) bool {
			half := len(word) / 2
			return word == strings.Repeat("a", half)+strings.Repeat("b", half)
		}},
		{"S=<a|b>A;A=a[A]|bA[A];", "ab", 7, hasSomeEnd},
		{"S={a|b}abb{a|b};", "ab", 8, func(word string) bool { return strings.Contains(word, "abb") }},
		{"S=({a}[b]{a}|c)[c];", "abc", 6, func(word string) bool {
			rest := strings.TrimSuffix(word, "c")
			return rest == "c" || !strings.Contains(rest, "c") && strings.Count(rest, "b") < 2
		}},
		{"S=<{<a>}b>;", "ab", 8, func(word string) bool { return strings.HasSuffix(word, "b") }},
		{"S=AA|;A=BB;B=aa|a;", "ab", 9, func(word string) bool {
			return word == "" || len(word) >= 4 && len(word) <= 8 && strings.Count(word, "a") == len(word)
		}},
	} {
		for _, word := range wordsUpTo(c.letters, c.longest) {
			parseOne(t, c.grammar, word, c.is(word))
		}
	}
}

func isPalindrome(word string) bool {
	for i := range word {
		if word[i] != word[len(word)-1-i] {
			return false
		}
	}
	return true
}

// isBalanced takes a and b for brackets.
func isBalanced(word string) bool {
	for strings.Contains(word, "ab") {
		word = strings.ReplaceAll(word, "ab", "")
	}
	return word == ""
}

// hasSomeEnd tells whether an A stands at the word's end, behind a letter: one
// a does, and ahead of it any letters may.
func hasSomeEnd(word string) bool {
	return len(word) > 1 && strings.HasSuffix(word, "a")
}
