package trees

import (
	"strings"
	"testing"

	"winnow/api"
)

type heightCase struct {
	grammar string
	tree    string
	height  int
}

// heightAll takes the height 0 for a text that is no tree.
func heightAll(t *testing.T, cases []heightCase) {
	t.Helper()
	for _, c := range cases {
		errno := api.OK
		if c.height == 0 {
			errno = api.ErrTree
		}
		if height, got := Height(c.grammar, c.tree); height != c.height || got != errno {
			t.Errorf("P4: Height(%.40q, %.60q) = %d, %d, want %d, %d", c.grammar, c.tree, height, got, c.height, errno)
		}
	}
}

const lists = "S={a|B}[c];B=<b>;"

func TestHeightExamples(t *testing.T) {
	heightAll(t, []heightCase{
		{"S=;", "S(0)", 1}, {"S=|aS;", "S(1aS(0))", 2},
		{"S=aS|;", "S(1)", 1}, {"S=aS|;", "S(0aS(0aS(1)))", 3}, {"S=aS|;", "S(0aS(1)", 0}, {"S=aS|;", "S(2)", 0},
		{lists, "S({}[])", 0}, {lists, "S(0{}[])", 1}, {lists, "S(0{0a,1B(0<0b,0b>)}[0c])", 2}, {lists, "S(0{1B(0<>)}[])", 0},
		{"S=S|SS|a;", "S(2a)", 1}, {"S=S|SS|a;", "S(0S(2a))", 2}, {"S=xSy|a;", "S(0xS(0xS(1a)y)y)", 3},
	})
}

// Brackets around a name do not count, and of what stands side by side the
// highest does, wherever it stands.
func TestHeightCountsNames(t *testing.T) {
	heightAll(t, []heightCase{
		{"S=(S)|[S]|{S}|<S>|;", "S(0(0S(1[0S(2{0S(3<0S(4)>)})])))", 5},
		{"S=((((()))));", "S(0(0(0(0(0(0))))))", 1},
		{"S={S};", "S(0{0S(0{}),0S(0{0S(0{})}),0S(0{})})", 3}, {"S={S};", "S(0{0S(0{0S(0{})}),0S(0{})})", 3}, {"S={S};", "S(0{0S(0{}),0S(0{0S(0{})})})", 3},
		{"S=SS|;", "S(0S(1)S(0S(1)S(1)))", 3}, {"S=SS|;", "S(0S(0S(1)S(1))S(1))", 3}, {"S=SS|;", "S(0S(1)S(1))", 2},
		{"S=[S][S];", "S(0[0S(0[][0S(0[][])])][])", 3}, {"S=<T>[T];T=U|;U=;", "S(0<0T(1),0T(0U(0)),0T(1)>[])", 3},
		{"A=B;B=C;C=;", "A(0B(0C(0)))", 3}, {"A=aBcBd;B=;", "A(0aB(0)cB(0)d)", 2},
	})
}

func TestHeightOfNoTree(t *testing.T) {
	heightAll(t, []heightCase{
		{"S=;", "", 0}, {"S=;", "S", 0}, {"S=;", "S(", 0}, {"S=;", "S(0", 0}, {"S=;", "S(0)S(0)", 0}, {"S=;", "S(0))", 0}, {"S=;", "S(0) ", 0}, {"S=;", " S(0)", 0}, {"S=;", "S(00)", 0}, {"S=;", "S[0]", 0}, {"S=;", "(0)", 0}, {"S=;", "s(0)", 0}, {"S=;", "S(0]", 0}, {"S=;", "S(\x000)", 0}, {"S=;", "S(0)\x00", 0}, {"S=;", "\x00(0)", 0}, {"S=;", "S\x00", 0},
		{"S=;", "S(1)", 0}, {"S=;", "S(9)", 0}, {"S=;", "S(/)", 0}, {"S=;", "S(:)", 0}, {"S=|||||||||;", "S(9)", 1}, {"S=|||||||||;", "S(:)", 0}, {"S=|||||||||;", "S(10)", 0}, {"S=(|)||;", "S(3)", 0}, {"S=(||||)|;", "S(2)", 0}, {"S=(||||)|;", "S(0(5))", 0}, {"S=(||||)|;", "S(0(4))", 1},
		// Only the start's trees are the grammar's, and each name has its own.
		{"S=T;T=;", "T(0)", 0}, {"S=T;T=;", "S(0S(0))", 0}, {"S=T;T=;U=;", "S(0U(0))", 0}, {"S=T;T=a;", "S(0T(0))", 0}, {"S=T;T=a;", "S(0T0a)", 0}, {"S=T;T=a;", "S(0T[0a])", 0}, {"S=T;T=a;", "S(0(0a))", 0}, {"S=T;T=a;", "S(0T(0a)", 0},
		{"S=ab;", "S(0ab)", 1}, {"S=ab;", "S(0ba)", 0}, {"S=ab;", "S(0a)", 0}, {"S=ab;", "S(0b)", 0}, {"S=ab;", "S(0aab)", 0}, {"S=ab;", "S(0abc)", 0}, {"S=ab;", "S(ab)", 0},
		{"S=S;", "S(0)", 0}, {"S=S;", "S(0S(0S(0)))", 0},
	})
}

func TestHeightOfBrackets(t *testing.T) {
	heightAll(t, []heightCase{
		{"S=(a);", "S(0(0a))", 1}, {"S=(a);", "S(0())", 0}, {"S=(a);", "S(0(0a,0a))", 0}, {"S=(a);", "S(00a)", 0}, {"S=(a);", "S(0a)", 0}, {"S=(a);", "S(0[0a])", 0}, {"S=(a);", "S(0(0a])", 0}, {"S=(a);", "S(0(a))", 0}, {"S=();", "S(0())", 0}, {"S=();", "S(0(0))", 1},
		{"S=[a];", "S(0[0a])", 1}, {"S=[a];", "S(0[])", 1}, {"S=[a];", "S(0)", 0}, {"S=[a];", "S(0[0a,0a])", 0}, {"S=[a];", "S(0[a])", 0}, {"S=[a];", "S(0[0])", 0}, {"S=[a];", "S(0[)", 0}, {"S=[a];", "S(0])", 0}, {"S=[a];", "S(0[0a)", 0}, {"S=[a];", "S(0{0a})", 0}, {"S=[];", "S(0[])", 1}, {"S=[];", "S(0[0])", 1},
		{"S={a};", "S(0{0a})", 1}, {"S={a};", "S(0{})", 1}, {"S={a};", "S(0{0a,0a,0a,0a,0a,0a,0a})", 1}, {"S={a};", "S(0{,})", 0}, {"S={a};", "S(0{0a,})", 0}, {"S={a};", "S(0{,0a})", 0}, {"S={a};", "S(0{0a,,0a})", 0}, {"S={a};", "S(0{0a0a})", 0}, {"S={a};", "S(0{0a,a})", 0}, {"S={a};", "S(0{0a;0a})", 0}, {"S={a};", "S(0<0a>)", 0}, {"S={a};", "S(0{0a>)", 0}, {"S={a};", "S(0{0a,0b})", 0}, {"S={};", "S(0{0,0})", 1}, {"S={};", "S(0{,})", 0},
		{"S=<a>;", "S(0<0a>)", 1}, {"S=<a>;", "S(0<0a,0a>)", 1}, {"S=<a>;", "S(0<>)", 0}, {"S=<a>;", "S(0<0a,>)", 0}, {"S=<a>;", "S(0<,0a>)", 0}, {"S=<a>;", "S(0{0a})", 0}, {"S=<a>;", "S(0{})", 0}, {"S=<a>;", "S(0<0a})", 0}, {"S=<>;", "S(0<0>)", 1}, {"S=<>;", "S(0<>)", 0},
	})
}

func TestHeightAtTheBound(t *testing.T) {
	wide := func(n int) string { return "S(0{" + strings.Repeat("0a,", n-1) + "0a}" }
	high := func(n int) string { return strings.Repeat("S(0", n-1) + "S(1" + strings.Repeat(")", n) }
	letters := func(n int) string { return strings.Repeat("a", n) }
	heightAll(t, []heightCase{
		{"S={a}[b];", wide(664) + "[])", 1}, // 1999 bytes
		{"S={a};", wide(665) + ")", 1},      // 2000
		{"S={a}b;", wide(665) + "b)", 0},    // 2001
		{"S={a};", wide(666) + ")", 0},
		{"S=S|;", high(500), 500},                                   // 2000
		{"S=S|a;", strings.Replace(high(500), "S(1", "S(1a", 1), 0}, // 2001
		{"S=S|;", high(501), 0},                                     // 2004
		{"S=S|;", high(500) + ")", 0},                               // 2001
		{"S=S|;", high(500)[:1999], 0},                              // 1999
		{"S=S|;", high(300000), 0},                                  // would be a tree but for its length
		{"S={a};", wide(300000) + ")", 0},
		{"S=" + letters(297) + ";", "S(0" + letters(297) + ")", 1}, {"S=" + letters(297) + ";", "S(0" + letters(296) + ")", 0}, {"S=" + letters(297) + ";", "S(0" + letters(298) + ")", 0},
		{"S=a;", strings.Repeat("S(0", 666), 0}, {"S=S;", strings.Repeat("S(0", 666), 0}, {"S={S};", strings.Repeat("S(0{0", 400), 0},
	})
}

func TestHeightOfAllShortTrees(t *testing.T) {
	letter := func(mark byte) factor { return factor{mark, nil} }
	bracket := func(opening byte, in ...[]factor) factor { return factor{opening, in} }
	row := func(factors ...factor) []factor { return factors }
	a, b, c, s, u := letter('a'), letter('b'), letter('c'), letter('S'), letter('U')
	for _, m := range []struct {
		model
		text string
		most int
	}{
		{model{{'S', expression{row(a, s), row()}}}, "S=aS|;", 100},
		{model{{'S', expression{row(bracket('{', row(a), row(u)), bracket('[', row(c)))}}, {'U', expression{row(bracket('<', row(b)))}}}, "S={a|U}[c];U=<b>;", 34},
		{model{{'S', expression{row(s, s), row(a), row()}}}, "S=SS|a|;", 41},
		{model{{'S', expression{row(bracket('(', row(bracket('[', row(s))), row())), row(bracket('<', row(s), row()))}}}, "S=([S]|)|<S|>;", 28},
		{model{{'S', expression{row(bracket('{', row(bracket('{', row())), row(u))), row(b, bracket('[', row()))}}, {'U', expression{row(bracket('(', row(), row(u)))}}}, "S={{}|U}|b[];U=(|U);", 27},
	} {
		if got := m.model.text(); got != m.text {
			t.Fatalf("the model is of %q, not of %q", got, m.text)
		}
		trees := m.trees(m.most)
		if len(trees) < 20 {
			t.Fatalf("%q has only %d trees", m.text, len(trees))
		}
		for tree, want := range trees {
			if height, errno := Height(m.text, tree); height != want || errno != api.OK {
				t.Fatalf("P4: Height(%q, %q) = %d, %d, want %d", m.text, tree, height, errno, want)
			}
			spoilt(tree, func(text string) {
				if want, short := trees[text], len(text) <= m.most; short {
					heightAll(t, []heightCase{{m.text, text, want}})
				}
			})
		}
	}
}

// spoilt visits the texts that are a byte away from a text.
func spoilt(text string, visit func(string)) {
	const set = "SUabc0123()[]{}<>,;|\x00"
	for i := range text {
		visit(text[:i] + text[i+1:])
		visit(text[:i])
		for j := range set {
			visit(text[:i] + set[j:j+1] + text[i:])
			visit(text[:i] + set[j:j+1] + text[i+1:])
		}
	}
	for j := range set {
		visit(text + set[j:j+1])
	}
}

// All texts of few bytes are tried where the trees are short.
func TestHeightOfAllShortTexts(t *testing.T) {
	for _, c := range []struct{ grammar, set, trees string }{
		{"S=[a]|;", "S()[]01a", "S(1) S(0[]) S(0[0a])"},
		{"S={};", "S(){}0,", "S(0{}) S(0{0})"},
		{"S=<>;", "S()<>0,", "S(0<0>)"},
		{"S=()|a;", "S()01,a", "S(0(0)) S(1a)"},
	} {
		most := 7
		trees := strings.Fields(c.trees)
		found := 0
		texts := []string{""}
		for n := 0; n <= most; n++ {
			var longer []string
			for _, text := range texts {
				if _, errno := Height(c.grammar, text); errno == api.OK {
					found++
				}
				for i := 0; n < most && i < len(c.set); i++ {
					longer = append(longer, text+c.set[i:i+1])
				}
			}
			texts = longer
		}
		want := 0
		for _, tree := range trees {
			if len(tree) <= most {
				want++
			}
			heightAll(t, []heightCase{{c.grammar, tree, 1}})
		}
		if found != want {
			t.Errorf("P4: of all texts of %d bytes at most %d are trees of %q, want %d", most, found, c.grammar, want)
		}
	}
}
