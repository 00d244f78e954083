package making

import (
	"strings"
	"testing"

	"winnow/api"
)

type recallCase struct {
	grammar      string
	tree         string
	height, most int
	choices      string
	errno        api.Errno
}

func recallAll(t *testing.T, cases []recallCase) {
	t.Helper()
	for _, c := range cases {
		if choices, errno := Recall(c.grammar, c.tree, c.height, c.most); choices != c.choices || errno != c.errno {
			t.Errorf("P7: Recall(%.60q, %.60q, %d, %d) = %.60q, %d, want %.60q, %d", c.grammar, c.tree, c.height, c.most, choices, errno, c.choices, c.errno)
		}
		if c.errno == api.OK {
			makeAll(t, []makeCase{{c.grammar, c.choices, c.height, c.most, c.tree, api.OK}})
		}
	}
}

func TestRecallExamples(t *testing.T) {
	recallAll(t, []recallCase{
		{lists, "S(0{0a,1B(0<0b,0b>)}[0c])", 2, 2, "20111", api.OK},
		{"S=aS|;", "S(0aS(0aS(1)))", 5, 1, "001", api.OK}, {"S=aS|;", "S(0aS(0aS(1)))", 3, 1, "00", api.OK}, {"S=aS|;", "S(1)", 1, 1, "", api.OK},
	})
}

func TestRecallWays(t *testing.T) {
	recallAll(t, []recallCase{
		{"S=;", "S(0)", 9, 5, "", api.OK}, {"S=(a)((b))cS|;", "S(1)", 1, 1, "", api.OK}, {"S=(a)((b))cS|;", "S(0(0a)(0(0b))cS(1))", 2, 1, "0", api.OK}, {"S=a|b|c|d|e|f|g|h|i|j;", "S(9j)", 1, 1, "9", api.OK},
		// The number of the way, not of the alternative.
		{"S=A|a|A|b|A;A=;", "S(3b)", 1, 1, "1", api.OK}, {"S=A|a|A|b|A;A=;", "S(3b)", 2, 1, "3", api.OK}, {"S=A|a|B;A=A;B=;", "S(2B(0))", 2, 1, "1", api.OK}, {"S=A|a|B;A=A;B=;", "S(1a)", 1, 1, "", api.OK}, {"S=a|A|A|A|A|A|A|A|A|b;A=A;", "S(9b)", 9, 1, "1", api.OK}, {"S=a|A|A|A|A|A|A|A|A|b;A=A;", "S(0a)", 9, 1, "0", api.OK},
		{"S=[A]a;A=;", "S(0[]a)", 1, 1, "", api.OK}, {"S=[A]a;A=;", "S(0[]a)", 2, 1, "0", api.OK}, {"S=[A]a;A=;", "S(0[0A(0)]a)", 2, 1, "1", api.OK}, {"S=[A]a;A=A;", "S(0[]a)", 9, 1, "", api.OK},
		{"S={A}a;A=;", "S(0{}a)", 1, 3, "", api.OK}, {"S={A}a;A=;", "S(0{}a)", 2, 3, "0", api.OK}, {"S={A}a;A=;", "S(0{0A(0),0A(0),0A(0)}a)", 2, 3, "3", api.OK}, {"S={A}a;A=A;", "S(0{}a)", 9, 5, "", api.OK},
		{"S=<a>;", "S(0<0a>)", 1, 1, "", api.OK}, {"S=<a>;", "S(0<0a>)", 1, 2, "0", api.OK}, {"S=<a>;", "S(0<0a,0a>)", 1, 2, "1", api.OK}, {"S=<a>;", "S(0<0a,0a,0a,0a,0a>)", 1, 5, "4", api.OK}, {"S={a};", "S(0{0a,0a,0a,0a,0a})", 1, 5, "5", api.OK},
		// Within a list what is within counts apart.
		{"S={<a|b>};", "S(0{0<0a,1b>,0<1b>})", 1, 2, "210101", api.OK}, {"S={<a|b>};", "S(0{0<0a,1b>,0<1b>})", 1, 5, "210101", api.OK}, {"S={({a})};", "S(0{0(0{0a,0a}),0(0{})})", 1, 2, "220", api.OK},
		// Zeros at the end are choices too.
		{"S=(a|b)(a|b)(a|b);", "S(0(1b)(0a)(0a))", 1, 1, "100", api.OK}, {lists, "S(0{}[])", 9, 5, "00", api.OK},
	})
}

func TestRecallWrong(t *testing.T) {
	const most = int(^uint(0) >> 1)
	three := "S(0{0a,0a,0a})"
	recallAll(t, []recallCase{
		{"S=aS|;", "", 1, 1, "", api.ErrTree}, {"S=aS|;", "S(0aS(1)", 9, 5, "", api.ErrTree}, {"S=aS|;", "S(2)", 9, 5, "", api.ErrTree}, {"S=aS|;", "S(1))", 9, 5, "", api.ErrTree}, {"S=aS|;", strings.Repeat("S(0a", 100000), 9, 5, "", api.ErrTree}, {"S={a};", strings.Repeat("{", 100000), 9, 5, "", api.ErrTree},
		{"S=aS|;", "S(1)", 0, 1, "", api.ErrArg}, {"S=aS|;", "S(1)", 10, 1, "", api.ErrArg}, {"S=aS|;", "S(1)", 1, 0, "", api.ErrArg}, {"S=aS|;", "S(1)", 1, 6, "", api.ErrArg}, {"S=aS|;", "S(1)", -most - 1, 1, "", api.ErrArg}, {"S=aS|;", "S(1)", 1, most, "", api.ErrArg}, {"S=aS|;", "S(1)", 9, 5, "1", api.OK}, {"S=aS|;", "S(1)", 1, 1, "", api.OK},
		{"S=aS|;", "S(0aS(1))", 1, 1, "", api.ErrHeight}, {"S=aS|;", "S(0aS(1))", 2, 1, "0", api.OK}, {"S=SS|;", "S(0S(1)S(0S(1)S(1)))", 2, 1, "", api.ErrHeight}, {"S=SS|;", "S(0S(1)S(0S(1)S(1)))", 3, 1, "010", api.OK}, {"S=SS|;", "S(0S(1)S(0S(1)S(1)))", 4, 1, "01011", api.OK},
		{"S={a};", three, 1, 2, "", api.ErrHeight}, {"S={a};", three, 1, 3, "3", api.OK}, {"S=<a>;", "S(0<0a,0a>)", 1, 1, "", api.ErrHeight}, {"S={a};", "S(0{0a,0a,0a,0a,0a,0a})", 9, 5, "", api.ErrHeight}, {"S=[{(a)}]b;", "S(0[0{0(0a),0(0a)}]b)", 9, 1, "", api.ErrHeight}, {"S={a}{a};", "S(0{0a}{0a,0a})", 9, 1, "", api.ErrHeight}, {"S={a}{a};", "S(0{0a,0a}{0a})", 9, 1, "", api.ErrHeight}, {"S={{a}};", "S(0{0{0a,0a},0{}})", 9, 1, "", api.ErrHeight}, {"S={{a}};", "S(0{0{0a,0a}})", 9, 1, "", api.ErrHeight}, {"S={{a}};", "S(0{0{0a},0{0a}})", 9, 1, "", api.ErrHeight},
		// The error that is named first.
		{"S=aS|;", "S(2)", 0, 0, "", api.ErrTree}, {"S=aS|;", "S(0aS(1))", 1, 0, "", api.ErrArg}, {"S={a};", three, 10, 2, "", api.ErrArg}, {"S=S;", "S(0)", 1, 1, "", api.ErrTree},
		// Nothing but the limits sets bounds to trees here: this one has ten names around one another.
		{"S=aS|;", strings.Repeat("S(0a", 9) + "S(1)" + strings.Repeat(")", 9), 9, 1, "", api.ErrHeight}, {"S=aS|;", strings.Repeat("S(0a", 8) + "S(1)" + strings.Repeat(")", 8), 9, 1, "00000000", api.OK},
	})
}

func TestRecallAtTheBound(t *testing.T) {
	grammar := "S=BBBBBBBBBB" + strings.Repeat("c", 17) + ";B=" + strings.Repeat("[]", 97) + ";"
	tree := "S(0" + strings.Repeat("B(0"+strings.Repeat("[]", 97)+")", 10) + strings.Repeat("c", 17) + ")"
	if len(tree) != 2001 {
		t.Fatalf("the tree has %d bytes", len(tree))
	}
	recallAll(t, []recallCase{
		{grammar, tree, 2, 1, "", api.ErrTree},
		{strings.Replace(grammar, "c", "", 1), strings.Replace(tree, "c", "", 1), 2, 1, strings.Repeat("0", 970), api.OK},
		{strings.Replace(grammar, "cc", "", 1), strings.Replace(tree, "cc[])", "[])", 1), 2, 1, "", api.ErrTree},
	})
}
