package making

import (
	"sort"
	"strings"
	"testing"

	"winnow/api"
	"winnow/rules"
	"winnow/trees"
)

// dice are numbers that look as if they were thrown, and are the same each time.
type dice uint64

func (d *dice) throw(n int) int {
	*d = *d*6364136223846793005 + 1442695040888963407
	return int(uint64(*d)>>33) % n
}

// writeGrammar writes a grammar of which the names that are used have rules.
func (d *dice) writeGrammar() string {
	names := "SABC"[:1+d.throw(4)]
	text := ""
	for _, name := range names {
		text += string(name) + "=" + d.writeExpression(names, 0) + ";"
	}
	return text
}

func (d *dice) writeExpression(names string, deep int) string {
	text := ""
	for n := 1 + d.throw(5); n > 0; n-- {
		switch kind := d.throw(12); {
		case kind < 4 && deep < 5:
			text += "([{<"[kind:kind+1] + d.writeExpression(names, deep+1) + ")]}>"[kind:kind+1]
		case kind < 7:
			text += "|"
		case kind < 10:
			at := d.throw(len(names))
			text += names[at : at+1]
		default:
			text += "ab"[kind%2 : kind%2+1]
		}
	}
	return text
}

// writeChoices writes one digit more often than the others.
func (d *dice) writeChoices(length int) string {
	text := ""
	often := d.throw(10)
	for ; length > 0; length-- {
		digit := often
		if d.throw(3) == 0 {
			digit = d.throw(10)
		}
		text += string(rune('0' + digit))
	}
	return text
}

// Make and Recall answer as the model does, and undo each other.
func TestMakeAndRecallAsTheModel(t *testing.T) {
	d := dice(1)
	met := map[api.Errno]int{}
	high, long := 0, 0
	for n := 0; n < 20000; n++ {
		grammar := d.writeGrammar()
		if errno, _ := rules.Check(grammar); errno != api.OK {
			continue
		}
		height, most, choices := 1+d.throw(9), 1+d.throw(5), d.writeChoices(d.throw(3)*d.throw(400))
		wantTree, wantChoices, wantErrno := newModel(grammar).makeTree(choices, height, most)
		tree, errno := Make(grammar, choices, height, most)
		if tree != wantTree || errno != wantErrno {
			t.Fatalf("P5: Make(%q, %q, %d, %d) = %q, %d, want %q, %d", grammar, choices, height, most, tree, errno, wantTree, wantErrno)
		}
		met[errno]++
		if errno != api.OK {
			continue
		}
		reached, errno := trees.Height(grammar, tree)
		if errno != api.OK || reached > height {
			t.Fatalf("P5: Make(%q, %q, %d, %d) = %q of the height %d, %d", grammar, choices, height, most, tree, reached, errno)
		}
		recallAll(t, []recallCase{{grammar, tree, height, most, wantChoices, api.OK}})
		if reached > 3 {
			high++
		}
		if len(wantChoices) > 20 {
			long++
		}
	}
	if met[api.OK] < 5000 || met[api.ErrHeight] < 500 || met[api.ErrBig] < 150 || high < 500 || long < 500 {
		t.Errorf("too few of a kind: %v, %d high, %d with many choices", met, high, long)
	}
}

// Every tree within the limits can be made, and no other; the lesser way leads
// to the choices that stand ahead; no choices begin with others.
func TestAllTreesWithinLimits(t *testing.T) {
	for _, c := range []struct {
		grammar string
		limits  [][2]int
	}{
		{"S=aS|;", [][2]int{{9, 5}, {8, 1}, {2, 1}}}, {lists, [][2]int{{1, 5}, {2, 3}, {3, 2}, {2, 1}, {1, 1}}}, {"S=SS|a|;", [][2]int{{2, 5}, {3, 1}, {4, 1}}}, {"S=[S]{S};", [][2]int{{2, 3}, {3, 1}, {3, 2}}}, {"S=([S]|)|<S|>;", [][2]int{{2, 3}, {3, 2}, {1, 5}}}, {"S=A|B|c;A=<A>|a;B=[B]B|[A];", [][2]int{{2, 5}, {3, 2}, {4, 1}, {5, 1}}}, {"S=<{<a|b>}>;", [][2]int{{1, 1}, {1, 2}}}, {"S=A[A]{A}<A>;A=|a;", [][2]int{{2, 1}, {2, 2}}},
	} {
		for _, limits := range c.limits {
			all := newModel(c.grammar).all(limits[0], limits[1])
			checkAllOf(t, c.grammar, limits[0], limits[1], all)
			for _, others := range c.limits {
				refuseOthers(t, c.grammar, limits[0], limits[1], all, newModel(c.grammar).all(others[0], others[1]))
			}
		}
	}
}

func checkAllOf(t *testing.T, grammar string, height int, most int, all []string) {
	t.Helper()
	last := ""
	for i, tree := range all {
		choices, errno := Recall(grammar, tree, height, most)
		if errno != api.OK || i > 0 && (choices <= last || strings.HasPrefix(choices, last)) {
			t.Fatalf("P7: Recall(%q, %q, %d, %d) = %q, %d, behind %q", grammar, tree, height, most, choices, errno, last)
		}
		makeAll(t, []makeCase{{grammar, choices, height, most, tree, api.OK}})
		last = choices
	}
	want := append([]string(nil), all...)
	sort.Strings(want)
	made := allMade(grammar, height, most)
	if strings.Join(made, " ") != strings.Join(want, " ") {
		t.Errorf("P5: of %q with %d, %d there are %d trees, and %d are made", grammar, height, most, len(want), len(made))
	}
}

// allMade answers all trees that Make makes: behind what it took, each digit is
// tried at the last place and, as far as it counts, at those ahead of it.
func allMade(grammar string, height int, most int) []string {
	met := map[string]bool{}
	choices := ""
	for {
		tree, _ := Make(grammar, choices, height, most)
		met[tree] = true
		taken, _ := Recall(grammar, tree, height, most)
		choices = next(grammar, taken, height, most)
		if choices == "" {
			break
		}
	}
	var all []string
	for tree := range met {
		all = append(all, tree)
	}
	sort.Strings(all)
	return all
}

// next answers the choices that come next to those that were taken, or none:
// a digit too great goes round, and does not come back as it was.
func next(grammar string, taken string, height int, most int) string {
	for i := len(taken) - 1; i >= 0; i-- {
		if taken[i] == '9' {
			continue
		}
		greater := taken[:i] + string(rune(taken[i]+1))
		tree, _ := Make(grammar, greater, height, most)
		if again, _ := Recall(grammar, tree, height, most); strings.HasPrefix(again, greater) {
			return greater
		}
	}
	return ""
}

// refuseOthers tries those trees of other limits that are not among the given ones.
func refuseOthers(t *testing.T, grammar string, height int, most int, all []string, others []string) {
	t.Helper()
	within := map[string]bool{}
	for _, tree := range all {
		within[tree] = true
	}
	for _, tree := range others {
		if !within[tree] {
			recallAll(t, []recallCase{{grammar, tree, height, most, "", api.ErrHeight}})
		}
	}
}

// P1: whatever the texts and numbers are, there is an answer, and an error
// comes alone.
func TestAnyTextsAndNumbers(t *testing.T) {
	d := dice(3)
	const set = "SAB(())[]{}<>0123,ab\x00\xff"
	for n := 0; n < 20000; n++ {
		grammar := d.writeGrammar()
		if errno, _ := rules.Check(grammar); errno != api.OK {
			continue
		}
		text := ""
		for more := d.throw(30); more > 0; more-- {
			at := d.throw(len(set))
			text += set[at : at+1]
		}
		height, most := d.throw(13)-1, d.throw(9)-1
		if tree, errno := Make(grammar, text, height, most); errno != api.OK && tree != "" {
			t.Fatalf("P1: Make(%q, %q, %d, %d) = %q, %d", grammar, text, height, most, tree, errno)
		}
		tree, errno := Make(grammar, d.writeChoices(20), 1+d.throw(9), 1+d.throw(5))
		if errno != api.OK {
			continue
		}
		at := d.throw(len(tree))
		for _, spoilt := range []string{tree, tree[:at], tree[at:], tree[:at] + tree[at+1:], tree[:at] + text + tree[at:]} {
			choices, errno := Recall(grammar, spoilt, height, most)
			_, ofHeight := trees.Height(grammar, spoilt)
			if errno != api.OK && choices != "" || (ofHeight == api.ErrTree) != (errno == api.ErrTree) {
				t.Fatalf("P7: Recall(%q, %q, %d, %d) = %q, %d", grammar, spoilt, height, most, choices, errno)
			}
		}
	}
}
