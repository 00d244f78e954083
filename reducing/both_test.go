package reducing

import (
	"math/rand"
	"slices"
	"strings"
	"testing"

	"winnow/api"
	"winnow/making"
)

func grammars() []string {
	return []string{
		"S=aS|;", lists, nest, "E=EpT|T;T=TmF|F;F=xEy|n;", "S=S|SS|a|b;", "S=(a|(b|c)S)[d]|[S]<a>;", "S=AB|BA;A={a[B]};B=<b[A]>;", "S=[S]{S}<a|b[S]>;", "S={[{[{a|S}]}]};", "S=<{<a|B>}|[b]>;B=b|(S);", "S=A;A=<B>a|c;B={C|b}[S];C=[A](b|cC|);", "S=AA|[a]|{b};A=AA|S|(a|b);", "S=<S|a>|<>|{}|[]|();",
	}
}

// thrownTree makes a tree of a grammar, of at most so many bytes.
func thrownTree(r *rand.Rand, grammar string, bytes int) string {
	for {
		choices := ""
		for range r.Intn(120) {
			choices += string(rune('0' + r.Intn(10)))
		}
		tree, errno := making.Make(grammar, choices, 1+r.Intn(9), 1+r.Intn(5))
		if errno == api.OK && len(tree) <= bytes {
			return tree
		}
	}
}

// thrownCondition joins pieces of a word, and others that hardly stand in it.
func thrownCondition(r *rand.Rand, word string) string {
	var parts []string
	for range r.Intn(5) {
		at := r.Intn(len(word) + 1)
		part := word[at:min(len(word), at+r.Intn(6))]
		if r.Intn(4) == 0 {
			part = "!" + string("abcd"[r.Intn(4)]) + part
		}
		parts = append(parts, part)
	}
	return strings.Join(parts, ",")
}

// The steps are those of the model, each as often, and none has more steps left
// than the tree ahead had.
func TestStepsAsTheModel(t *testing.T) {
	r := rand.New(rand.NewSource(1))
	many := 0
	for _, grammar := range grammars() {
		for range 300 {
			tree := thrownTree(r, grammar, 300)
			got, want := stepTexts(tree), modelSteps(tree)
			if !slices.Equal(got, want) || len(want) != modelCount(tree) {
				t.Fatalf("P10: the steps of %q make %q, want %q, %d", tree, got, want, modelCount(tree))
			}
			for _, smaller := range want {
				if modelCount(smaller) >= len(want) {
					t.Fatalf("P10: a step from %q to %q leaves %d steps of %d", tree, smaller, modelCount(smaller), len(want))
				}
			}
			if len(want) > 20 {
				many++
			}
		}
	}
	if many < 200 {
		t.Errorf("only %d trees have many steps", many)
	}
}

// Trees, conditions and budgets that look thrown.
func TestReduceThrown(t *testing.T) {
	r := rand.New(rand.NewSource(2))
	met := map[string]int{}
	for _, grammar := range grammars() {
		for range 1000 {
			tree := thrownTree(r, grammar, 300)
			word := lettersOf(tree)
			condition := thrownCondition(r, word)
			budget := []int{0, r.Intn(5), r.Intn(30), api.MaxBudget}[r.Intn(4)]
			if !modelHolds(condition, word) {
				if way, asked, why, errno := Reduce(grammar, tree, condition, budget); way != "" || asked != 0 || why != 0 || errno != api.ErrFails {
					t.Fatalf("P9: Reduce(%q, %q, %q, %d) = %q, %d, %d, %d, want ErrFails", grammar, tree, condition, budget, way, asked, why, errno)
				}
				met["fails"]++
				continue
			}
			w := follow(t, grammar, tree, condition, budget)
			met[[]string{"", "done", "spent"}[w.why]]++
			if len(w.way) > 4 {
				met["long"]++
			}
			if w.why == api.Done && modelCount(w.last()) > 0 {
				met["done with steps left"]++
			}
			if budget == api.MaxBudget && w.why != api.Done {
				t.Errorf("P9: Reduce(%q, %q, %q, 9999) is not done", grammar, tree, condition)
			}
		}
	}
	if met["fails"] < 500 || met["done"] < 5000 || met["spent"] < 2000 || met["long"] < 200 || met["done with steps left"] < 1000 {
		t.Errorf("too few of a kind: %v", met)
	}
}

// All trees that few choices make of small grammars, with all short conditions
// that hold, and every budget up to what is needed.
func TestReduceAllSmall(t *testing.T) {
	conditions := textsUpTo("ab,!", 3)
	ways := 0
	for _, grammar := range []string{"S=aS|b;", "S={a|b};", "S=<a|b>[a];", "S=SS|a|b;", "S=[A]a;A=b[A]|S;"} {
		met := map[string]bool{}
		for _, choices := range textsUpTo("0123", 6) {
			tree, errno := making.Make(grammar, choices, 5, 3)
			if errno != api.OK || met[tree] || len(tree) > 60 {
				continue
			}
			met[tree] = true
			for _, condition := range conditions {
				if !conditionForm.MatchString(condition) || !modelHolds(condition, lettersOf(tree)) {
					continue
				}
				whole := follow(t, grammar, tree, condition, api.MaxBudget)
				for budget := range whole.asked {
					if w := follow(t, grammar, tree, condition, budget); w.why != api.Spent {
						t.Fatalf("P9: Reduce(%q, %q, %q, %d) is done, and with 9999 it took %d", grammar, tree, condition, budget, whole.asked)
					}
				}
				if exact := follow(t, grammar, tree, condition, whole.asked); exact.why != api.Done || whole.why != api.Done {
					t.Fatalf("P9: Reduce(%q, %q, %q, %d) is not done", grammar, tree, condition, whole.asked)
				}
				ways += len(whole.way)
			}
		}
	}
	if ways < 5000 {
		t.Errorf("only %d trees stand on the ways", ways)
	}
}
