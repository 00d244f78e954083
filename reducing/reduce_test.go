package reducing

import (
	"slices"
	"strings"
	"testing"

	"winnow/api"
	"winnow/trees"
)

const (
	lists = "S={a|B}[c];B=<b>;"
	great = "S(0{0a,1B(0<0b,0b>)}[0c])"
	nest  = "S=xSy|a;"
	deep  = "S(0xS(0xS(1a)y)y)"
)

// A walked way is an answer of Reduce that was found in order.
type walked struct {
	way   []string
	asked int
	why   int
}

func (w walked) last() string { return w.way[len(w.way)-1] }

// follow holds what Reduce answers against P9's words, step by step.
func follow(t *testing.T, grammar string, tree string, condition string, budget int) walked {
	t.Helper()
	text, asked, why, errno := Reduce(grammar, tree, condition, budget)
	w := walked{strings.Split(text, "\n"), asked, why}
	wrong := func(what string) {
		t.Helper()
		t.Fatalf("P9: Reduce(%q, %q, %q, %d) = %q, %d, %d, %d: %s", grammar, tree, condition, budget, text, asked, why, errno, what)
	}
	if errno != api.OK || w.way[0] != tree {
		wrong("the way does not begin with the tree")
	}
	steps := modelSteps(tree)
	if asked < len(w.way)-1 || asked > budget || asked > len(w.way)*len(steps) || len(steps) != modelCount(tree) {
		wrong("the condition was not asked so often")
	}
	for n, smaller := range w.way {
		if _, ofTree := trees.Height(grammar, smaller); ofTree != api.OK || !modelHolds(condition, lettersOf(smaller)) {
			wrong("the way leads astray")
		}
		if n > 0 && !slices.Contains(steps, smaller) {
			wrong("that is no step")
		}
		if n > 0 {
			steps = modelSteps(smaller)
		}
	}
	endsWell(wrong, w, condition, budget, steps)
	return w
}

// endsWell looks at why a way ended. The steps are those of its last tree.
func endsWell(wrong func(string), w walked, condition string, budget int, steps []string) {
	switch w.why {
	case api.Done:
		for _, smaller := range steps {
			if modelHolds(condition, lettersOf(smaller)) {
				wrong("it is not done")
			}
		}
	case api.Spent:
		if w.asked != budget || len(steps) == 0 {
			wrong("the budget is not spent, or it is known that all is done")
		}
	default:
		wrong("there is no reason")
	}
}

// The trees in which a way may end are told with blanks between; a dash is the
// tree itself.
func TestReduceToTheEnd(t *testing.T) {
	for _, c := range []struct{ grammar, tree, condition, lasts string }{
		{lists, great, "b", "S(0{1B(0<0b>)}[])"}, {nest, deep, "a", "S(1a)"}, {nest, deep, "xay", "S(0xS(1a)y)"}, {nest, deep, "xxayy", "-"},
		{lists, great, "", "S(0{}[])"}, {lists, great, ",", "S(0{}[])"}, {lists, great, "!z", "S(0{}[])"}, {lists, great, "c", "S(0{}[0c])"}, {lists, great, "a,c", "S(0{0a}[0c])"}, {lists, great, "c,a,!ac", "S(0{0a,1B(0<0b>)}[0c])"}, {lists, great, "abbc", "-"}, {lists, great, "bb", "S(0{1B(0<0b,0b>)}[])"}, {lists, great, "ab", "S(0{0a,1B(0<0b>)}[])"}, {lists, great, "bc", "S(0{1B(0<0b>)}[0c])"},
		// Each kind of step.
		{"S=[a];", "S(0[0a])", "", "S(0[])"}, {"S=[a];", "S(0[0a])", "a", "-"}, {"S=[[a]];", "S(0[0[0a]])", "", "S(0[])"}, {"S=[[a]b];", "S(0[0[0a]b])", "b", "S(0[0[]b])"},
		{"S={a};", "S(0{0a,0a,0a,0a})", "", "S(0{})"}, {"S={a};", "S(0{0a,0a,0a,0a})", "aa", "S(0{0a,0a})"}, {"S={a|b|c};", "S(0{0a,1b,2c})", "a,c", "S(0{0a,2c})"}, {"S={a|b|c};", "S(0{0a,0a,2c})", "!b", "S(0{})"}, {"S={a|b|c};", "S(0{0a,1b,2c})", "!ac", "S(0{})"},
		{"S=<a|b>;", "S(0<0a,1b,0a>)", "", "S(0<0a>) S(0<1b>)"}, {"S=<a|b>;", "S(0<0a,1b,0a>)", "b", "S(0<1b>)"}, {"S=<a|b>;", "S(0<0a>)", "", "-"}, {"S=<[a]>;", "S(0<0[0a],0[]>)", "", "S(0<0[]>)"},
		{"S=S|SS|a;", "S(0S(1S(2a)S(2a)))", "a", "S(2a)"}, {"S=S|SS|a;", "S(0S(1S(2a)S(2a)))", "aa", "S(1S(2a)S(2a))"}, {"S=S|a;", "S(0S(0S(0S(1a))))", "a", "S(1a)"}, {"S=A;A=B;B=S|c;", "S(0A(0B(0S(0A(0B(0S(0A(0B(1c)))))))))", "c", "S(0A(0B(1c)))"}, {"S=AA;A=aA|b;", "S(0A(0aA(1b))A(0aA(0aA(1b))))", "ba", "S(0A(1b)A(0aA(1b)))"}, {"S=A(B)A;A=B|a;B=A|b;", "S(0A(0B(0A(1a)))(0B(0A(0B(1b))))A(1a))", "", "S(0A(1a)(0B(1b))A(1a))"},
		// No step.
		{"S=;", "S(0)", "", "-"}, {"S=;", "S(0)", "!a", "-"}, {"S=abc;", "S(0abc)", "abc", "-"}, {lists, "S(0{}[])", "", "-"}, {"S=AA;A=a;", "S(0A(0a)A(0a))", "aa", "-"}, {"S=<a>(b);", "S(0<0a>(0b))", "a", "-"},
		// A step that leaves the word as it is.
		{"S=[{[]}];", "S(0[0{0[0],0[],0[0]}])", "", "S(0[])"}, {"S=<>;", "S(0<0,0,0>)", "", "S(0<0>)"}, {"S={a|}b;", "S(0{1,0a,1}b)", "ab", "S(0{0a}b)"},
		// One step would have to go with another.
		{"S={a|b};", "S(0{0a,1b})", "!ba,!aa,ab", "-"}, {"S=[a][b];", "S(0[0a][0b])", "ab", "-"},
	} {
		w := follow(t, c.grammar, c.tree, c.condition, 9999)
		if w.why != api.Done || !slices.Contains(strings.Fields(strings.ReplaceAll(c.lasts, "-", c.tree)), w.last()) {
			t.Errorf("P9: Reduce(%q, %q, %q, 9999) ends with %q, %d, want one of %q", c.grammar, c.tree, c.condition, w.last(), w.why, c.lasts)
		}
	}
}

// Of several errors the first one is told, and it comes alone.
func TestReduceErrors(t *testing.T) {
	refuse := func(tree string, condition string, budget int, want api.Errno) {
		t.Helper()
		if way, asked, why, errno := Reduce(lists, tree, condition, budget); way != "" || asked != 0 || why != 0 || errno != want {
			t.Errorf("P9: Reduce(.., %.40q, %.40q, %d) = %.40q, %d, %d, %d, want %d", tree, condition, budget, way, asked, why, errno, want)
		}
	}
	noTrees := []string{"", "S", "S(0)", "S(0{}[]", "S(0{}[])\n", "S(0{}[]))", "B(0<0b>)", "S(0{1B(0<>)}[])", "abbc", "\x00", "S(0{" + strings.Repeat("0a,", 664) + "0a}[])", strings.Repeat("S(", 3000000)}
	noConditions := []string{"A", "a!", "!!a", "a b", "a,B", "b\n", strings.Repeat("a", 301), strings.Repeat(",", 301), strings.Repeat("!", 3000000)}
	failing := []string{"z", "!b", "a,ba", "!", "b,!", "!,b", "abbcc", strings.Repeat("a", 300), strings.Repeat("b,", 149) + "!c"}
	holding := []string{"", "b", "!z", strings.Repeat("b,", 149) + "!z", strings.Repeat(",", 300)}
	wrongBudgets := []int{-1, -9999, -1 << 63, 10000, 10001, 1<<63 - 1}
	budgets := []int{0, 1, 2, 9, 9998, 9999}
	for _, budget := range append(wrongBudgets, budgets...) {
		for _, condition := range slices.Concat(noConditions, failing, holding) {
			for _, tree := range noTrees {
				refuse(tree, condition, budget, api.ErrTree)
			}
		}
		for _, condition := range noConditions {
			refuse(great, condition, budget, api.ErrCondition)
		}
	}
	for _, condition := range append(failing, holding...) {
		for _, budget := range wrongBudgets {
			refuse(great, condition, budget, api.ErrArg)
		}
	}
	for _, budget := range budgets {
		for _, condition := range failing {
			refuse(great, condition, budget, api.ErrFails)
		}
		for _, condition := range holding {
			follow(t, lists, great, condition, budget)
		}
	}
}

// A tree of MaxTree bytes is still one, and one byte more is not.
func TestReduceAtTheBoundOfTrees(t *testing.T) {
	const grammar = "S={a}[b]c;"
	tree := "S(0{" + strings.Repeat("0a,", 663) + "0a}[]c)" // 2000 bytes
	way, _, why, errno := Reduce(grammar, tree, strings.Repeat("a", 299)+"c", 9999)
	if !strings.HasSuffix(way, "\nS(0{"+strings.Repeat("0a,", 298)+"0a}[]c)") || why != api.Done || errno != api.OK || len(tree) != 2000 {
		t.Errorf("P9: a tree of %d bytes: %.40q, %d, %d", len(tree), way, why, errno)
	}
	longer := strings.Replace(tree, "[]", "[0b]", 1)
	if way, _, _, errno := Reduce(grammar, longer, "", 9999); way != "" || errno != api.ErrTree {
		t.Errorf("P9: a tree of %d bytes: %.40q, %d", len(longer), way, errno)
	}
}

// Every budget from none to more than is needed. With less than that the
// condition is asked to the end of the budget, and the way is a part of the whole.
func TestReduceWithinABudget(t *testing.T) {
	for _, c := range []struct{ grammar, tree, condition string }{
		{lists, great, "b"}, {lists, great, ""}, {lists, great, "abbc"}, {lists, great, "a,c"}, {nest, deep, "a"}, {nest, deep, "xay"}, {nest, deep, "xxayy"}, {"S=S|SS|a;", "S(0S(1S(2a)S(1S(2a)S(0S(2a)))))", "aa"}, {"S={a|b};", "S(0{0a,1b,0a,1b,0a,1b})", "abab"}, {"S=<a>;", "S(0<0a,0a,0a,0a,0a>)", "aa"}, {"S={};", "S(0{0,0,0,0})", ""}, {"S=[a];", "S(0[0a])", ""}, {"S=[a];", "S(0[0a])", "a"}, {"S=a;", "S(0a)", "a"},
	} {
		whole := follow(t, c.grammar, c.tree, c.condition, api.MaxBudget)
		if whole.why != api.Done {
			t.Fatalf("P9: Reduce(%q, %q, %q, 9999) is not done", c.grammar, c.tree, c.condition)
		}
		for budget := 0; budget < whole.asked+5; budget++ {
			w := follow(t, c.grammar, c.tree, c.condition, budget)
			spent := budget < whole.asked
			if spent != (w.why == api.Spent) || !spent && w.asked != whole.asked || !slices.Equal(w.way, whole.way[:len(w.way)]) {
				t.Errorf("P9: Reduce(%q, %q, %q, %d) = %q, %d, %d, and with 9999 it is %q, %d", c.grammar, c.tree, c.condition, budget, w.way, w.asked, w.why, whole.way, whole.asked)
			}
			if budget == 0 && len(w.way) > 1 {
				t.Errorf("P9: with the budget 0 the way is %q", w.way)
			}
		}
	}
}

// How often the condition is asked, where that can be told beforehand.
func TestReduceAsks(t *testing.T) {
	for _, c := range []struct {
		grammar, tree, condition string
		budget, asked, why       int
	}{
		// Nothing holds: each step is asked for once.
		{lists, great, "abbc", 9999, 5, api.Done}, {lists, great, "abbc", 5, 5, api.Done}, {lists, great, "abbc", 4, 4, api.Spent}, {nest, deep, "xxayy", 9999, 3, api.Done}, {nest, deep, "xxayy", 3, 3, api.Done}, {nest, deep, "xxayy", 2, 2, api.Spent}, {"S={a};", "S(0{0a,0a,0a})", "aaa", 9999, 3, api.Done},
		// The last step holds with the last of the budget, and leads to a tree without steps.
		{"S=[a];", "S(0[0a])", "", 1, 1, api.Done}, {"S=[a];", "S(0[0a])", "", 9999, 1, api.Done}, {"S={a};", "S(0{0a,0a,0a})", "", 3, 3, api.Done}, {"S={a};", "S(0{0a,0a,0a})", "", 2, 2, api.Spent}, {"S=<a>;", "S(0<0a,0a,0a>)", "", 2, 2, api.Done}, {"S=<a>;", "S(0<0a,0a,0a>)", "", 1, 1, api.Spent},
		// A tree without steps.
		{lists, "S(0{}[])", "", 0, 0, api.Done}, {lists, "S(0{}[])", "!z", 9999, 0, api.Done}, {"S=AA;A=a;", "S(0A(0a)A(0a))", "a", 0, 0, api.Done}, {"S=<a>;", "S(0<0a>)", "a", 0, 0, api.Done},
		{lists, great, "b", 0, 0, api.Spent}, {nest, deep, "a", 0, 0, api.Spent}, {lists, great, "abbc", 0, 0, api.Spent},
	} {
		w := follow(t, c.grammar, c.tree, c.condition, c.budget)
		if w.asked != c.asked || w.why != c.why {
			t.Errorf("P9: Reduce(%q, %q, %q, %d) = %q, %d, %d, want %d, %d", c.grammar, c.tree, c.condition, c.budget, w.way, w.asked, w.why, c.asked, c.why)
		}
	}
}

// Trees with just as many steps as the greatest budget, and with one more, of
// which no step holds.
func TestReduceAtTheGreatestBudget(t *testing.T) {
	for _, c := range []struct{ elements, budget, why int }{
		{129, 9999, api.Done}, {129, 9998, api.Spent}, {130, 9999, api.Spent}, {128, 9998, api.Done}, {128, 9999, api.Done},
	} {
		// 141 names within one another make 9870 pairs.
		tree := strings.Repeat("S(0x", 140) + "S(1{" + strings.Repeat("0a,", c.elements-1) + "0a})" + strings.Repeat(")", 140)
		condition := strings.Repeat("x", 140) + strings.Repeat("a", c.elements)
		way, asked, why, errno := Reduce("S=xS|{a};", tree, condition, c.budget)
		if want := min(c.budget, 9870+c.elements); way != tree || asked != want || why != c.why || errno != api.OK {
			t.Errorf("P9: of %d steps: %.40q, %d, %d, %d, want %d, %d", 9870+c.elements, way, asked, why, errno, want, c.why)
		}
	}
}

// The order in which steps are asked for is the program's choice: it makes a
// budget last. Behind a step it goes on where it was, and of names within one
// another the innermost is asked for first.
func TestReduceAsksSeldom(t *testing.T) {
	for _, c := range []struct {
		grammar, tree, condition, last string
		most                           int
	}{
		{"S={a|b};", "S(0{" + strings.Repeat("0a,", 60) + strings.Repeat("1b,", 59) + "1b})", strings.Repeat("a", 60), "S(0{" + strings.Repeat("0a,", 59) + "0a})", 180},
		{"S={a|b};", "S(0{" + strings.Repeat("1b,", 60) + strings.Repeat("0a,", 59) + "0a})", strings.Repeat("a", 60), "S(0{" + strings.Repeat("0a,", 59) + "0a})", 120},
		{"S={[a]};", "S(0{0[]" + strings.Repeat(",0[0a]", 50) + "})", "", "S(0{})", 51},
		{nest, strings.Repeat("S(0x", 200) + "S(1a)" + strings.Repeat("y)", 200), "a", "S(1a)", 1},
		{nest, strings.Repeat("S(0x", 200) + "S(1a)" + strings.Repeat("y)", 200), "xxay", "S(0xS(0xS(1a)y)y)", 6},
	} {
		way, asked, why, errno := Reduce(c.grammar, c.tree, c.condition, api.MaxBudget)
		if !strings.HasSuffix(way, "\n"+c.last) || asked > c.most || why != api.Done || errno != api.OK {
			t.Errorf("Reduce(%q, %.40q, %.40q, 9999) asked %d times, want at most %d: %d, %d", c.grammar, c.tree, c.condition, asked, c.most, why, errno)
		}
	}
}
