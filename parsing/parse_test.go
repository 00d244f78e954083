package parsing

import (
	"strings"
	"testing"

	"winnow/api"
	"winnow/trees"
)

// parseOne looks at what Parse answers for a word that has a tree or has none.
func parseOne(t *testing.T, grammar string, word string, is bool) string {
	t.Helper()
	tree, errno := Parse(grammar, word)
	if !is {
		if tree != "" || errno != api.ErrNot {
			t.Fatalf("P8: Parse(%q, %q) = %.60q, %d, want ErrNot", grammar, word, tree, errno)
		}
		return ""
	}
	if errno != api.OK {
		t.Fatalf("P8: Parse(%q, %q) = %.60q, %d", grammar, word, tree, errno)
	}
	if _, ofTree := trees.Height(grammar, tree); ofTree != api.OK {
		t.Fatalf("P8: Parse(%q, %q) = %q: no tree", grammar, word, tree)
	}
	if got := lettersOf(tree); got != word {
		t.Fatalf("P8: Parse(%q, %q) = %q: its word is %q", grammar, word, tree, got)
	}
	return tree
}

// A parseCase has words with a tree and words without, with blanks between; a
// dash is the empty word.
type parseCase struct{ grammar, words, others string }

func parseAll(t *testing.T, cases []parseCase) {
	t.Helper()
	for _, c := range cases {
		for _, word := range strings.Fields(c.words) {
			parseOne(t, c.grammar, strings.Trim(word, "-"), true)
		}
		for _, word := range strings.Fields(c.others) {
			parseOne(t, c.grammar, strings.Trim(word, "-"), false)
		}
	}
}

// Where there is only one shortest tree it is known beforehand.
func TestParseExamples(t *testing.T) {
	for _, c := range []struct{ grammar, word, tree string }{
		{"S=aS|;", "aa", "S(0aS(0aS(1)))"}, {"S=aS|;", "", "S(1)"}, {"S=S|SS|a;", "a", "S(2a)"}, {"S=S|SS|a;", "aa", "S(1S(2a)S(2a))"}, {"S=;", "", "S(0)"}, {"S={a|B}[c];B=<b>;", "abbc", "S(0{0a,1B(0<0b,0b>)}[0c])"}, {"S={a|B}[c];B=<b>;", "", "S(0{}[])"}, {"S=<[a]>;", "", "S(0<0[]>)"}, {"S=(|a)(b|);", "", "S(0(0)(1))"}, {"S=||||||||{S}|z[S];", "zz", "S(9z[0S(9z[])])"}, {"S=S|A;A=S|a;", "a", "S(1A(1a))"}, {"Z=A;A=xBy;B={[A]z}<A|>;", "xy", "Z(0A(0xB(0{}<1>)y))"},
	} {
		if tree := parseOne(t, c.grammar, c.word, true); tree != c.tree {
			t.Errorf("Parse(%q, %q) = %q, want %q", c.grammar, c.word, tree, c.tree)
		}
	}
}

func TestParseWordsAndOthers(t *testing.T) {
	parseAll(t, []parseCase{
		{"S=aS|;", "- a aa aaaaaaaaaaaaaaaaaaaa", "b ab ba aab aaaaaaaaaaaaaaaaaaab"},
		{"S={a|B}[c];B=<b>;", "- a b c abba bbc abbac", "ca cc d ad"},
		{"S=xSy|a;", "a xay xxxxxxxxxayyyyyyyyy", "- x xy xxay xayy aa"},
		{"E=EpT|T;T=TmF|F;F=xEy|n;", "n npn nmnpn xnpnymn xxxxnpnyyyymnpnpnpn", "- p np nn xn xnyn xy xxxxnpnyyyymnpnpnpnn"},
		{"S=(a|(b|c)S)[d];", "a ad ba bcadd bcbcbcbcbcbcbcbcbcba", "- d b aa bcbcbcbcbcbcbcbcbcbc"},
		{"S=zyxwvutsrqponmlkjihg;", "zyxwvutsrqponmlkjihg", "- z zyxwvutsrqponmlkjihh ayxwvutsrqponmlkjihg"},
		{"S=a;T=b;", "a", "- b ab"},
	})
}

// A rule may lead back to itself without a letter.
func TestParseRoundAndRound(t *testing.T) {
	parseAll(t, []parseCase{
		{"S=S|;", "-", "a"}, {"S=SS|;", "-", "a"}, {"S=SSS|a;", "a aaa aaaaa aaaaaaaaaaaaaaaaaaa", "- aa aaaa aaaaaaaaaaaaaaaaaaaa"}, {"S=S|SS|a;", "a aa aaaaaaaaaaaaaaaaaaaa", "- b aaaaaaaaaaaaaaaaaaab"}, {"S=[S][S]a;", "a aa aaaaaaaaaaaaaaaaaaaa", "- b"}, {"S={S}|a;", "- a aaaa", "b ab"}, {"S=<S>|a;", "a aaaa aaaaaaaaaaaaaaaaaaaa", "- b ab"}, {"S=([{<S>}])|a;", "- a aa", "b"},
		{"S=A;A=B;B=S|c;", "c", "- a cc"}, {"S=ABC;A=BC|a;B=CA|b;C=AB|c;", "abc", "- a ab abcc"}, {"S=AB|ba;A=[S];B={S};", "- ba baba bababababababababa", "a b ab bab"}, {"S=B;A=a|B;B=A|C;C=B|cA;", "a ca cca ccccccccccccccccccca", "- c ac"},
	})
}

// Of a name there may be no tree at all: none that has an end.
func TestParseNamesWithoutTrees(t *testing.T) {
	parseAll(t, []parseCase{
		{"S=S;", "", "- a"}, {"S=aS;", "", "- a aa aaaaaaaaaaaaaaaaaaaa"}, {"S=<S>;", "", "- a"}, {"S=A;A=B;B=S;", "", "- a"}, {"S=A|a;A=A;", "a", "- aa"}, {"S=[A]a;A=A;", "a", "- aa"}, {"S={A}b;A=aA;", "b", "- ab aab"}, {"S=<A>|b;A=aA;", "b", "- ab a"}, {"S=(A|a|A)b;A=(A);", "ab", "- a b"}, {"S=a;A=A;", "a", "-"}, {"S=[S]A;A=aA;", "", "- a"},
	})
}

// Options and lists of what may be empty.
func TestParseEmptyParts(t *testing.T) {
	parseAll(t, []parseCase{
		{"S=[];", "-", "a"}, {"S={};", "-", "a"}, {"S=<>;", "-", "a"}, {"S=();", "-", "a"}, {"S=[[a]];", "- a", "b aa"}, {"S={[a]};", "- a aaa", "b"}, {"S={{a}b};", "- b ab aabbab", "a ba aabba"}, {"S=<{a}>;", "- a aaa", "b"}, {"S={<a>};", "- a aaa", "b"}, {"S=<<[a]>>;", "- a aaa", "b"}, {"S=<[a]b>;", "b ab abbab", "- a aab"}, {"S=<a|>b;", "b ab aaab", "- a ba"}, {"S={A}{A};A=|a|b;", "- a ba baab", "c ac"}, {"S=AB;A={a};B=<b[A]>;", "b ab bab aabaaab", "- a aa aaa"}, {"S=[a]{a}<a>(a|)a;", "aa aaa aaaaaaaaaaaaaaaaaaaa", "- a b"}, {"S=AAAAAAAAAAAAAAAAAAAA;A=|a;", "- a aaaaaaaaaaaaaaaaaaaa", "b"}, {"S={a};", "- a aaaaaa aaaaaaaaaaaaaaaaaaaa", "b"},
	})
}

// Any text of any length that is no word.
func TestParseTextsThatAreNoWords(t *testing.T) {
	refuse := func(word string) {
		t.Helper()
		for _, grammar := range []string{"S=aS|;", "S=S;", "S=<{[a|b]}>;"} {
			if tree, errno := Parse(grammar, word); tree != "" || errno != api.ErrWord {
				t.Errorf("P8: Parse(%q, %.30q) = %.60q, %d, want ErrWord", grammar, word, tree, errno)
			}
		}
	}
	for b := 0; b < 256; b++ {
		if b >= 'a' && b <= 'z' {
			parseOne(t, "S={a|b|c|d|e|f|g|h|i|(j|k|l|m|n|o|p|q|r|(s|t|u|v|w|x|y|z))};", string(rune(b))+"a", true)
			continue
		}
		one := string([]byte{byte(b)})
		for _, word := range []string{one, one + "a", "a" + one, "a" + one + "a", strings.Repeat("a", 19) + one, one + strings.Repeat("a", 19)} {
			refuse(word)
		}
	}
	for _, n := range []int{21, 22, 300, 2001, 9000000} {
		refuse(strings.Repeat("a", n))
		refuse(strings.Repeat("S(0)", n))
	}
}

// cs is a grammar's end, in which C's only tree has 40 bytes and D's 4.
const cs = "C=DDDDDDDDD;D=;"

// A tree of more than MaxTree bytes is none of the grammar, and where a word has
// such trees and others, another one has to be found.
func TestParseTreesOfManyBytes(t *testing.T) {
	c49 := strings.Repeat("C", 49) // with the start, of 4 bytes, 1964
	for _, c := range []struct {
		grammar string
		word    string
		bytes   int // of the shortest tree, or 0
	}{
		{"S=" + c49 + strings.Repeat("D", 9) + ";" + cs, "", 2000},
		{"S=" + c49 + strings.Repeat("D", 9) + "a;" + cs, "a", 0},
		{"S=" + c49 + strings.Repeat("D", 8) + "aaaa;" + cs, "aaaa", 2000},
		{"S=" + c49 + strings.Repeat("D", 8) + "aaaaa;" + cs, "aaaaa", 0},
		{"S=" + c49 + strings.Repeat("[a]", 18) + ";" + cs, "", 2000},
		{"S=" + c49 + strings.Repeat("[a]", 18) + ";" + cs, "a", 0},
		{"S=" + c49 + strings.Repeat("[a]", 17) + ";" + cs, "a", 2000},
		{"S=" + c49 + strings.Repeat("{a}", 17) + ";" + cs, "a", 2000},
		{"S=" + c49 + strings.Repeat("{a}", 17) + ";" + cs, "aa", 0},
		{"S=" + c49 + "D<a>;" + cs, "aaaaaaaaaa", 1999},
		{"S=" + c49 + "Da<a>;" + cs, "aaaaaaaaaaa", 2000},
		{"S=" + c49 + "D<a>;" + cs, "aaaaaaaaaaa", 0},
		{"S=" + c49 + "Daa<a>;" + cs, "aaaaaaaaaaaa", 0},
		{"S=" + c49 + strings.Repeat("(|)", 12) + ";" + cs, "", 2000},
		{"S=" + c49 + strings.Repeat("(|)", 12) + "b;" + cs, "b", 0},
		// A tree of too many bytes is the first, the lowest, or on the way to others.
		{"S=" + c49 + "C|T;T=U;U=V;V=;" + cs, "", 16},
		{"S=T|" + c49 + "C;T=U;U=V;V=" + c49 + "|;" + cs, "", 16},
		{"S=T;T=A|B;A=" + c49 + "C;B=" + c49 + ";" + cs, "", 1972},
		{"S=T|" + c49 + "D;T=" + c49 + "D;" + cs, "", 1968},
		// Which letters belong to which name decides how many bytes there are.
		{"S=BA;A=|aA;B=|aB" + strings.Repeat("D", 24) + ";D=;", strings.Repeat("a", 20), 112},
		{"S=AB;A=|aA;B=|aB" + strings.Repeat("D", 24) + ";D=;", strings.Repeat("a", 20), 112},
		{"S=B;A=|aA;B=|aB" + strings.Repeat("D", 24) + ";D=;", strings.Repeat("a", 19), 1927},
		{"S=B;A=|aA;B=|aB" + strings.Repeat("D", 24) + ";D=;", strings.Repeat("a", 20), 0},
		{"S=[A]{A}<A>;A=a" + strings.Repeat("D", 23) + "|B;B=aB|a;D=;", strings.Repeat("a", 20), 115},
	} {
		if tree := parseOne(t, c.grammar, c.word, c.bytes > 0); len(tree) != c.bytes {
			t.Errorf("P8: Parse(%.90q, %q) has %d bytes, want %d", c.grammar, c.word, len(tree), c.bytes)
		}
	}
	// Three names in each name, again and again: more bytes than any memory has.
	huge := "A="
	for name := 'B'; name <= 'Z'; name++ {
		huge += strings.Repeat(string(name), 3) + ";" + string(name) + "="
	}
	parseOne(t, huge+";", "", false)
	parseOne(t, huge+"[a];", "a", false)
}
