package winnow

import (
	"strings"
	"testing"

	"winnow/api"
)

const (
	most  = int(^uint(0) >> 1)
	least = -most - 1
)

// texts are grammars, trees, words, choices and conditions, good ones and
// wrong ones; each stands for each argument once.
func texts() []string {
	all := []string{
		"", "S", "S=", "S=;", "S=a", "S=aS|;", "S=S;", "S=a;S=b;", "S=aB;", "S={a|B}[c];B=<b>;", "S=((((((a))))));", "S=|||||||||||;", "s=a;", "S=a;\n", "S=é;", "S=\x00;", "\xff\xfe", "Z=A;A=Z;",
		"S(1)", "S(0aS(1))", "S(0aS(0aS(1)))", "S(0{0a,1B(0<0b,0b>)}[0c])", "S(", "S(0", ")", "(((((", "]]]]]", "S(0S(0S(0S(0",
		"aa", "abbc", "0", "001", "2013141", "9999999999", "a,b,!c", "!", ",", "A", "-1", " ",
	}
	for b := 0; b < 256; b++ {
		all = append(all, string([]byte{byte(b)}))
	}
	for _, n := range []int{299, 300, 301, 1999, 2000, 2001, 70000} {
		for _, text := range []string{"a", "S", "(", "|", "0", "S(0", "S=;", "S=a|S;", "{0", ",", "!", "\x00"} {
			whole := strings.Repeat(text, n/len(text)+1)
			all = append(all, whole[:n])
		}
	}
	return all
}

func numbers() []int {
	return []int{least, -1, 0, 1, 5, 6, 9, 10, 9999, 10000, most}
}

// P1: every call ends, none panics, and an error comes alone.
func TestAnyArguments(t *testing.T) {
	all := texts()
	for _, grammar := range all {
		errno, place := Check(grammar)
		if place < 0 || place > len(grammar) || errno == api.OK && place != 0 {
			t.Errorf("P1: Check(%.40q) = %d, %d", grammar, errno, place)
		}
		for _, text := range all {
			if height, e := Height(grammar, text); e != api.OK && height != 0 || e == api.OK && height < 1 {
				t.Errorf("P1: Height(%.40q, %.40q) = %d, %d", grammar, text, height, e)
			}
			if tree, e := Parse(grammar, text); (e == api.OK) == (tree == "") {
				t.Errorf("P1: Parse(%.40q, %.40q) = %.40q, %d", grammar, text, tree, e)
			}
		}
		for i, n := range numbers() {
			text := all[(i*31+len(grammar))%len(all)]
			for _, m := range numbers() {
				if tree, e := Make(grammar, text, n, m); e != api.OK && tree != "" {
					t.Errorf("P1: Make(%.40q, %.40q, %d, %d) = %.40q, %d", grammar, text, n, m, tree, e)
				}
				if choices, e := Recall(grammar, text, n, m); e != api.OK && choices != "" {
					t.Errorf("P1: Recall(%.40q, %.40q, %d, %d) = %.40q, %d", grammar, text, n, m, choices, e)
				}
			}
			for j := range all {
				tree, condition := all[j], all[(i*17+j*5)%len(all)]
				if way, asked, why, e := Reduce(grammar, tree, condition, n); (e == api.OK) == (way == "") || e != api.OK && (asked != 0 || why != 0) {
					t.Errorf("P1: Reduce(%.40q, %.40q, %.40q, %d) = %.40q, %d, %d, %d", grammar, tree, condition, n, way, asked, why, e)
				}
			}
		}
	}
}

// P3: a grammar that is none is told ahead of all else, by every call.
func TestErrorOfCheckComesFirst(t *testing.T) {
	for _, c := range []struct {
		grammar string
		errno   api.Errno
	}{
		{strings.Repeat("S", 301), api.ErrLong}, {"", api.ErrForm}, {"S=(a];", api.ErrForm}, {"S=||||||||||;", api.ErrMany}, {"S=((((((", api.ErrDeep}, {"S=;S=;", api.ErrTwice}, {"S=Q;", api.ErrName},
	} {
		check, _ := Check(c.grammar)
		height, ofHeight := Height(c.grammar, "no tree")
		made, ofMake := Make(c.grammar, "no choices", 0, 0)
		choices, ofRecall := Recall(c.grammar, "no tree", 0, 0)
		tree, ofParse := Parse(c.grammar, "NO WORD")
		way, asked, why, ofReduce := Reduce(c.grammar, "no tree", "NO CONDITION", -1)
		for i, errno := range []api.Errno{check, ofHeight, ofMake, ofRecall, ofParse, ofReduce} {
			if errno != c.errno {
				t.Errorf("P3: call %d answers %d for %.20q, want %d", i, errno, c.grammar, c.errno)
			}
		}
		if made+choices+tree+way != "" || height != 0 || asked != 0 || why != 0 {
			t.Errorf("P1: an error of %.20q does not come alone", c.grammar)
		}
	}
}

// P3, P4: the calls hand on what rules and trees answer, which have tests of
// their own.
func TestCheckAndHeight(t *testing.T) {
	if errno, place := Check("S=aB;"); errno != api.ErrName || place != 3 {
		t.Errorf("P3: Check = %d, %d", errno, place)
	}
	if errno, place := Check("S={a|B}[c];B=<b>;"); errno != api.OK || place != 0 {
		t.Errorf("P3: Check = %d, %d", errno, place)
	}
	if height, errno := Height("S=aS|;", "S(0aS(0aS(1)))"); height != 3 || errno != api.OK {
		t.Errorf("P4: Height = %d, %d", height, errno)
	}
	if height, errno := Height("S=aS|;", "S(2)"); height != 0 || errno != api.ErrTree {
		t.Errorf("P4: Height = %d, %d", height, errno)
	}
}

// P5, P7: so do these calls hand on what making answers.
func TestMakeAndRecall(t *testing.T) {
	const grammar, tree = "S={a|B}[c];B=<b>;", "S(0{0a,1B(0<0b,0b>)}[0c])"
	if made, errno := Make(grammar, "2013141", 2, 3); made != "S(0{0a,1B(0<0b>)}[0c])" || errno != api.OK {
		t.Errorf("P5: Make = %q, %d", made, errno)
	}
	if made, errno := Make("S=S;", "", 9, 5); made != "" || errno != api.ErrHeight {
		t.Errorf("P5: Make = %q, %d", made, errno)
	}
	if choices, errno := Recall(grammar, tree, 2, 5); choices != "20111" || errno != api.OK {
		t.Errorf("P7: Recall = %q, %d", choices, errno)
	}
	if choices, errno := Recall(grammar, tree, 5, 1); choices != "" || errno != api.ErrHeight {
		t.Errorf("P7: Recall = %q, %d", choices, errno)
	}
}

// P8: so does Parse hand on what parsing answers, which has tests of its own.
func TestParse(t *testing.T) {
	if tree, errno := Parse("S=aS|;", "aa"); tree != "S(0aS(0aS(1)))" || errno != api.OK {
		t.Errorf("P8: Parse = %q, %d", tree, errno)
	}
	if tree, errno := Parse("S=aS|;", "ab"); tree != "" || errno != api.ErrNot {
		t.Errorf("P8: Parse = %q, %d", tree, errno)
	}
	for _, word := range []string{"aA", "S(1)", strings.Repeat("a", 21), strings.Repeat("b", 21)} {
		if tree, errno := Parse("S=aS|;", word); tree != "" || errno != api.ErrWord {
			t.Errorf("P8: Parse of %q = %q, %d", word, tree, errno)
		}
	}
}

// P9: so does Reduce hand on what reducing answers, which has tests of its own.
func TestReduce(t *testing.T) {
	const grammar, tree = "S=xSy|a;", "S(0xS(0xS(1a)y)y)"
	if way, asked, why, errno := Reduce(grammar, tree, "xay", 99); !strings.HasPrefix(way, tree+"\n") || !strings.HasSuffix(way, "\nS(0xS(1a)y)") || asked < 2 || asked > 6 || why != api.Done || errno != api.OK {
		t.Errorf("P9: Reduce = %q, %d, %d, %d", way, asked, why, errno)
	}
	if way, asked, why, errno := Reduce(grammar, tree, "xay", 0); way != tree || asked != 0 || why != api.Spent || errno != api.OK {
		t.Errorf("P9: Reduce = %q, %d, %d, %d", way, asked, why, errno)
	}
	for _, c := range []struct {
		tree, condition string
		budget          int
		errno           api.Errno
	}{
		{"xxayy", "A", -1, api.ErrTree}, {tree, "A", -1, api.ErrCondition}, {tree, "b", -1, api.ErrArg}, {tree, "b", 99, api.ErrFails},
	} {
		if way, asked, why, errno := Reduce(grammar, c.tree, c.condition, c.budget); way != "" || asked != 0 || why != 0 || errno != c.errno {
			t.Errorf("P9: Reduce of %q, %q, %d = %q, %d, %d, %d", c.tree, c.condition, c.budget, way, asked, why, errno)
		}
	}
}

type answer struct {
	errno    api.Errno
	place    int
	height   int
	ofTree   api.Errno
	made     string
	ofMake   api.Errno
	choices  string
	ofRecall api.Errno
	parsed   string
	ofParse  api.Errno
	way      string
	asked    int
	why      int
	ofReduce api.Errno
}

func ask(grammar string, tree string) answer {
	a := answer{}
	a.errno, a.place = Check(grammar)
	a.height, a.ofTree = Height(grammar, tree)
	a.made, a.ofMake = Make(grammar, "0213", 3, 3)
	a.choices, a.ofRecall = Recall(grammar, tree, 3, 3)
	a.parsed, a.ofParse = Parse(grammar, "a")
	a.way, a.asked, a.why, a.ofReduce = Reduce(grammar, tree, "", 9)
	return a
}

// P2: what was asked before changes nothing.
func TestAnswersHangOnArgumentsAlone(t *testing.T) {
	all := texts()
	first := make([]answer, len(all))
	for i := range all {
		first[i] = ask(all[i], all[len(all)-1-i])
	}
	for round := 0; round < 3; round++ {
		for i := len(all) - 1; i >= 0; i-- {
			for _, between := range []int{i * round, i + 1, i * i} {
				ask(all[between%len(all)], "S(0aS(1))")
			}
			if again := ask(all[i], all[len(all)-1-i]); again != first[i] {
				t.Errorf("P2: %.40q gives %v, and gave %v", all[i], again, first[i])
			}
		}
	}
	fresh := string([]byte("S=aS|;"))
	for n := 0; n < 100; n++ {
		if got := ask(fresh, "S(0aS(1))"); got != (answer{api.OK, 0, 2, api.OK, "S(0aS(0aS(1)))", api.OK, "01", api.OK, "S(0aS(1))", api.OK, "S(0aS(1))\nS(1)", 1, api.Done, api.OK}) {
			t.Fatalf("P2: the answer number %d is %v", n, got)
		}
	}
}
