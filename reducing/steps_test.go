package reducing

import (
	"sort"
	"strings"
	"testing"
)

// stepTexts answers the trees that the steps make, in the order of their texts.
func stepTexts(tree string) []string {
	var all []string
	for _, s := range stepsOf(tree) {
		all = append(all, s.of(tree))
	}
	sort.Strings(all)
	return all
}

// The trees that steps make are told with blanks between, one of several steps
// as often as they are.
func TestSteps(t *testing.T) {
	for _, c := range []struct{ tree, smaller string }{
		{"S(0)", ""}, {"S(0abc)", ""}, {"S(0(0a(1b)))", ""}, {"S(0A(0B(0)))", ""}, {"S(0[]{}[])", ""},
		// An option becomes empty, whatever is in it.
		{"S(0[0])", "S(0[])"}, {"S(0[0a])", "S(0[])"}, {"S(0[0a][1b])", "S(0[0a][]) S(0[][1b])"}, {"S(0[][0a])", "S(0[][])"}, {"S(0[0[0a]])", "S(0[0[]]) S(0[])"}, {"S(0[0[]])", "S(0[])"}, {"S(0(0[0a]))", "S(0(0[]))"}, {"S(0A(0[0a]))", "S(0A(0[]))"},
		// An element goes with a comma beside it.
		{"S(0{0a})", "S(0{})"}, {"S(0{0})", "S(0{})"}, {"S(0{0a,1b})", "S(0{0a}) S(0{1b})"}, {"S(0{0a,1b,2c})", "S(0{0a,1b}) S(0{0a,2c}) S(0{1b,2c})"}, {"S(0{0,0})", "S(0{0}) S(0{0})"}, {"S(0{0a}b{1c})", "S(0{0a}b{}) S(0{}b{1c})"},
		{"S(0{0{0a}})", "S(0{0{}}) S(0{})"}, {"S(0{0{0a,1b},0{}})", "S(0{0{0a,1b}}) S(0{0{0a},0{}}) S(0{0{1b},0{}}) S(0{0{}})"}, {"S(0{0(1a)b,2(3)})", "S(0{0(1a)b}) S(0{2(3)})"},
		// The only one of a list that is not empty stays.
		{"S(0<0a>)", ""}, {"S(0<0>)", ""}, {"S(0<0a,1b>)", "S(0<0a>) S(0<1b>)"}, {"S(0<0a,1b,2c>)", "S(0<0a,1b>) S(0<0a,2c>) S(0<1b,2c>)"}, {"S(0<0<0a>>)", ""}, {"S(0<0<0a,1b>>)", "S(0<0<0a>>) S(0<0<1b>>)"}, {"S(0<0{0a}>)", "S(0<0{}>)"}, {"S(0{0<0a>})", "S(0{})"}, {"S(0<0[0a]>)", "S(0<0[]>)"}, {"S(0<0{},0>)", "S(0<0>) S(0<0{}>)"}, {"S(0{0<0a>,1<0b>})", "S(0{0<0a>}) S(0{1<0b>})"},
		// A name takes the place of one around it, at any depth.
		{"S(0S(1))", "S(1)"}, {"S(0xS(1a)y)", "S(1a)"}, {"S(0S(1S(2)))", "S(0S(2)) S(1S(2)) S(2)"}, {"S(0S(1)S(2))", "S(1) S(2)"}, {"S(0A(0B(0S(1a))))", "S(1a)"}, {"S(0A(1A(2)))", "S(0A(2))"}, {"S(0A(1)A(2))", ""}, {"S(0A(1B(2))B(3A(4)))", ""}, {"S(0A(0B(1A(2B(3)))))", "S(0A(0B(3))) S(0A(2B(3)))"}, {"S(0(0(0S(1))))", "S(1)"}, {"S(0[0S(1)])", "S(0[]) S(1)"}, {"S(0{0S(1),0S(2)})", "S(0{0S(1)}) S(0{0S(2)}) S(1) S(2)"}, {"S(0<0S(1)>)", "S(1)"}, {"S(0S(1)S(0S(2)S(3)))", "S(0S(1)S(2)) S(0S(1)S(3)) S(0S(2)S(3)) S(1) S(2) S(3)"},
		{"S(0{0a,1B(0<0b,0b>)}[0c])", "S(0{0a,1B(0<0b,0b>)}[]) S(0{0a,1B(0<0b>)}[0c]) S(0{0a,1B(0<0b>)}[0c]) S(0{0a}[0c]) S(0{1B(0<0b,0b>)}[0c])"},
	} {
		got, want := stepTexts(c.tree), strings.Fields(c.smaller)
		if strings.Join(got, " ") != strings.Join(want, " ") {
			t.Errorf("P10: the steps of %q make %q, want %q", c.tree, got, want)
		}
		if told := modelCount(c.tree); told != len(want) {
			t.Errorf("P10: %q has %d steps, and the model counts %d", c.tree, len(want), told)
		}
	}
}

func TestStepsOfGreatTrees(t *testing.T) {
	for _, c := range []struct {
		tree string
		want int
	}{
		{strings.Repeat("S(0", 499) + "S(1" + strings.Repeat(")", 500), 500 * 499 / 2},
		{"S(0{0a" + strings.Repeat(",0a", 664) + "})", 665}, {"S(0<0a" + strings.Repeat(",0a", 664) + ">)", 665},
		{"S(0{0[0]" + strings.Repeat(",0[0]", 398) + "})", 2 * 399}, {"S(0[0" + strings.Repeat("[0", 300) + strings.Repeat("]", 301) + ")", 301},
		{"S(0" + strings.Repeat("A(0", 200) + strings.Repeat(")", 200) + strings.Repeat("A(0", 200) + strings.Repeat(")", 200) + ")", 2 * 200 * 199 / 2},
	} {
		steps := stepsOf(c.tree)
		if len(steps) != c.want || modelCount(c.tree) != c.want {
			t.Errorf("P10: %.30q has %d steps and by the model %d, want %d", c.tree, len(steps), modelCount(c.tree), c.want)
		}
	}
}

// Whatever the text is, there is an answer, and the steps lie within it.
func TestStepsOfTextsThatAreNoTrees(t *testing.T) {
	for _, text := range textsUpTo("S0([{,}<>)", 5) {
		for _, s := range stepsOf(text) {
			if got := s.of(text); len(got) > len(text) {
				t.Fatalf("a step makes %q of %q", got, text)
			}
		}
	}
}

// A step that does not fit a text leaves it as it is.
func TestStepsThatDoNotFit(t *testing.T) {
	for _, s := range []step{{-1, 0, 0, 0}, {0, 0, 0, 4}, {1, 0, 0, 2}, {0, 2, 1, 3}, {0, 1, 3, 2}, {4, 4, 4, 4}, {0, -1, 1, 1}, {2, 1, 3, 3}} {
		if got := s.of("abc"); got != "abc" {
			t.Errorf("the step %v makes %q of it", s, got)
		}
	}
	if got := (step{1, 2, 2, 3}).of("abc"); got != "a" {
		t.Errorf("a step that fits makes %q", got)
	}
}
