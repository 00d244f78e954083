package making

import (
	"strings"
	"testing"

	"winnow/api"
)

const lists = "S={a|B}[c];B=<b>;"

type makeCase struct {
	grammar      string
	choices      string
	height, most int
	tree         string
	errno        api.Errno
}

func makeAll(t *testing.T, cases []makeCase) {
	t.Helper()
	for _, c := range cases {
		if tree, errno := Make(c.grammar, c.choices, c.height, c.most); tree != c.tree || errno != c.errno {
			t.Errorf("P5: Make(%.60q, %.20q, %d, %d) = %.60q, %d, want %.60q, %d", c.grammar, c.choices, c.height, c.most, tree, errno, c.tree, c.errno)
		}
	}
}

func TestMakeExamples(t *testing.T) {
	makeAll(t, []makeCase{
		{"S=aS|;", "001", 5, 1, "S(0aS(0aS(1)))", api.OK}, {"S=aS|;", "", 3, 1, "S(0aS(0aS(1)))", api.OK}, {"S=aS|;", "", 1, 1, "S(1)", api.OK},
		{lists, "2013141", 2, 2, "S(0{0a,1B(0<0b,0b>)}[0c])", api.OK}, {lists, "20111", 2, 2, "S(0{0a,1B(0<0b,0b>)}[0c])", api.OK},
	})
	for height := 1; height <= 9; height++ {
		makeAll(t, []makeCase{{"S=S;", "", height, 1, "", api.ErrHeight}, {"S=S;", "0123456789", height, 5, "", api.ErrHeight}})
	}
}

func TestMakeWrongChoices(t *testing.T) {
	digits := strings.Repeat("7", 2000)
	makeAll(t, []makeCase{
		{"S=;", digits, 1, 1, "S(0)", api.OK}, {"S=;", digits + "7", 1, 1, "", api.ErrChoice}, {"S=;", strings.Repeat("0", 1000000), 1, 1, "", api.ErrChoice},
		{"S=;", digits[1:] + "a", 1, 1, "", api.ErrChoice}, {"S=|;", "0a", 1, 1, "", api.ErrChoice}, {"S=|;", "a0", 1, 1, "", api.ErrChoice},
	})
	for b := 0; b < 256; b++ {
		want := makeCase{"S=;", "1" + string([]byte{byte(b)}) + "1", 1, 1, "S(0)", api.OK}
		if b < '0' || b > '9' {
			want.tree, want.errno = "", api.ErrChoice
		}
		makeAll(t, []makeCase{want})
	}
}

func TestMakeWrongNumbers(t *testing.T) {
	const most = int(^uint(0) >> 1)
	for _, n := range []int{-most - 1, -most, -1, 0, 1, 2, 5, 6, 8, 9, 10, 11, 255, 256, 257, 1 << 32, 1<<32 + 1, most} {
		height := makeCase{"S=;", "", n, 1, "S(0)", api.OK}
		if n < 1 || n > 9 {
			height.tree, height.errno = "", api.ErrArg
		}
		elements := makeCase{"S=;", "", 1, n, "S(0)", api.OK}
		if n < 1 || n > 5 {
			elements.tree, elements.errno = "", api.ErrArg
		}
		makeAll(t, []makeCase{height, elements})
	}
}

func TestMakeErrorNamedFirst(t *testing.T) {
	makeAll(t, []makeCase{
		{"S=S;", "x", 0, 0, "", api.ErrChoice}, {"S=S;", "x", 1, 1, "", api.ErrChoice}, {"S=S;", "0", 0, 1, "", api.ErrArg}, {"S=S;", "0", 1, 0, "", api.ErrArg}, {"S=S;", "0", 10, 6, "", api.ErrArg}, {"S=S;", "0", 1, 1, "", api.ErrHeight},
		// Where no tree is low enough, it is not told that one would be too big.
		{"S=SSSSSSSSS;", "", 9, 1, "", api.ErrHeight}, {"S=SSSSSSSSS|;", "", 9, 1, "", api.ErrBig}, {"S=SSSSSSSSS|;", "", 0, 1, "", api.ErrArg}, {"S=SSSSSSSSS|;", "-", 9, 1, "", api.ErrChoice},
	})
}

// P6: the least height at which there is a tree tells what counts for it.
func TestMakeLeastHeight(t *testing.T) {
	for _, c := range []struct {
		grammar string
		least   int // 10 where there is no such height
	}{
		{"S=;", 1}, {"S=a;", 1}, {"S=((((()))));", 1}, {"S=A;A=;", 2}, {"S=(A);A=;", 2}, {"S=[A];A=;", 1}, {"S={A};A=;", 1}, {"S=<A>;A=;", 2}, {"S=<[A]>;A=;", 1}, {"S=(<(A)>);A=;", 2}, {"S=<{<A>}>;A=;", 1},
		// Of factors the highest counts, of alternatives the lowest, wherever they stand.
		{"S=AB;A=;B=A;", 3}, {"S=BA;A=;B=A;", 3}, {"S=A|B;A=B;B=;", 2}, {"S=B|A;A=B;B=;", 2}, {"S=(A|B|C)C;A=C;B=C;C=;", 2}, {"S=a(B)b;B=C;C=;", 3}, {"S=(B|)(B|C);B=C;C=;", 2},
		{"S=A;A=B;B=C;C=D;D=E;E=F;F=G;G=H;H=;", 9}, {"S=A;A=B;B=C;C=D;D=E;E=F;F=G;G=H;H=I;I=;", 10}, {"H=G;G=F;F=E;E=D;D=C;C=B;B=A;A=;", 8}, {"Z=Y;Y=X;X=A;A=;", 4},
		{"S=S;", 10}, {"S=A;A=B;B=A;", 10}, {"S=S|A;A=S;", 10}, {"S=<S>;", 10}, {"S=(S);", 10}, {"S=[S]S;", 10}, {"S=SS|S|A;A=B;B=S|;", 3}, {"S=A;A=S|B;B=;", 3}, {"S=A;A=A;B=;", 10}, {"S=AB;A=;B=B;", 10}, {"S=;A=A;", 1}, {"S=[A]{A};A=A;", 1},
	} {
		for height := 1; height <= 9; height++ {
			tree, errno := Make(c.grammar, "", height, 1)
			if low := height < c.least; low != (errno == api.ErrHeight) || low != (tree == "") {
				t.Errorf("P6: Make(%q, .., %d, 1) = %q, %d, want a tree from %d on", c.grammar, height, tree, errno, c.least)
			}
		}
	}
}

func TestMakeExpressions(t *testing.T) {
	ten := "S=a|b|c|d|e|f|g|h|i|j;"
	for digit := 0; digit < 10; digit++ {
		makeAll(t, []makeCase{{ten, string(rune('0' + digit)), 1, 1, "S(" + string(rune('0'+digit)) + string(rune('a'+digit)) + ")", api.OK}})
	}
	makeAll(t, []makeCase{
		// The rest counts, of the ways that there are and not of the alternatives.
		{"S=a|b|c;", "3", 1, 1, "S(0a)", api.OK}, {"S=a|b|c;", "7", 1, 1, "S(1b)", api.OK}, {"S=a|b|c;", "8", 1, 1, "S(2c)", api.OK},
		{"S=A|a|A|b|A;A=;", "0", 1, 1, "S(1a)", api.OK}, {"S=A|a|A|b|A;A=;", "1", 1, 1, "S(3b)", api.OK}, {"S=A|a|A|b|A;A=;", "2", 1, 1, "S(1a)", api.OK}, {"S=A|a|A|b|A;A=;", "2", 2, 1, "S(2A(0))", api.OK}, {"S=A|a|A|b|A;A=;", "9", 2, 1, "S(4A(0))", api.OK},
		{"S=A|A|A|A|A|A|A|A|A|a;A=A;", "1", 9, 1, "S(9a)", api.OK}, {"S=B;B=A|A|A|A|A|A|A|A|A|a;A=A;", "", 2, 1, "S(0B(9a))", api.OK}, {"S=a|A|A|A|A|A|A|A|A|b;A=A;", "1", 9, 1, "S(9b)", api.OK},
		// Where one way is left, no digit is taken.
		{"S=(A|a)(b|c);A=;", "1", 1, 1, "S(0(1a)(1c))", api.OK}, {"S=(A|a)(b|c);A=;", "1", 2, 1, "S(0(1a)(0b))", api.OK}, {"S=(a)((b))(c|d);", "1", 1, 1, "S(0(0a)(0(0b))(1d))", api.OK},
		// Digits that are missing are 0, and those that are left over do nothing.
		{"S=(a|b)(a|b)(a|b);", "1", 1, 1, "S(0(1b)(0a)(0a))", api.OK}, {"S=(a|b)(a|b)(a|b);", "011", 1, 1, "S(0(0a)(1b)(1b))", api.OK}, {"S=(a|b)(a|b)(a|b);", "0111111", 1, 1, "S(0(0a)(1b)(1b))", api.OK},
		// From the left to the right, and what is within a part ahead of what is behind it.
		{"S=A(a|b)|c;A=(d|e)|f;", "00110", 2, 1, "S(0A(0(1e))(1b))", api.OK}, {"S=AA|c;A=a|b;", "010", 2, 1, "S(0A(1b)A(0a))", api.OK},
	})
}

// What is left grows less with each name, and no less with other brackets.
func TestMakeHeightLeft(t *testing.T) {
	makeAll(t, []makeCase{
		{"S=([{<S>}]|);", "01", 1, 1, "S(0(0[0{}]))", api.OK}, {"S=([{<S>}]|);", "011011", 2, 1, "S(0(0[0{0<0S(0(0[0{}]))>}]))", api.OK}, {"S=([{<S>}]|);", "011011", 3, 1, "S(0(0[0{0<0S(0(0[0{0<0S(0(0[]))>}]))>}]))", api.OK}, {"S=([{<S>}]|);", "0111", 2, 1, "S(0(0[0{0<0S(0(1))>}]))", api.OK},
		{"S=aS|;", "", 9, 1, "S(0aS(0aS(0aS(0aS(0aS(0aS(0aS(0aS(1)))))))))", api.OK}, {"S=aS|;", "000000001", 9, 1, "S(0aS(0aS(0aS(0aS(0aS(0aS(0aS(0aS(1)))))))))", api.OK},
		{"S=SS|;", "", 3, 1, "S(0S(0S(1)S(1))S(0S(1)S(1)))", api.OK}, {"S=SS|;", "01", 3, 1, "S(0S(1)S(0S(1)S(1)))", api.OK},
		{"S=A|B;A=B|S;B=a;", "1", 2, 1, "S(1B(0a))", api.OK}, {"S=A|B;A=B|S;B=a;", "01", 4, 1, "S(0A(1S(1B(0a))))", api.OK}, {"S=A|B;A=B|S;B=a;", "01", 3, 1, "S(0A(0B(0a)))", api.OK},
	})
}

func TestMakeOptions(t *testing.T) {
	makeAll(t, []makeCase{
		{"S=[a];", "", 1, 1, "S(0[])", api.OK}, {"S=[a];", "0", 1, 5, "S(0[])", api.OK}, {"S=[a];", "1", 1, 5, "S(0[0a])", api.OK}, {"S=[a];", "2", 1, 5, "S(0[])", api.OK}, {"S=[a];", "9", 1, 5, "S(0[0a])", api.OK}, {"S=[a|b];", "11", 1, 1, "S(0[1b])", api.OK}, {"S=[];", "1", 1, 1, "S(0[0])", api.OK},
		// No digit is taken where nothing fits into it.
		{"S=[A](b|c);A=;", "1", 1, 1, "S(0[](1c))", api.OK}, {"S=[A](b|c);A=;", "1", 2, 1, "S(0[0A(0)](0b))", api.OK}, {"S=[S](b|c);", "11", 9, 1, "S(0[0S(0[0S(0[](0b))](0b))](0b))", api.OK}, {"S=[A](b|c);A=A;", "1", 9, 1, "S(0[](1c))", api.OK}, {"S=[A|b];A=A;", "1", 9, 1, "S(0[1b])", api.OK},
	})
}

func TestMakeLists(t *testing.T) {
	for most := 1; most <= 5; most++ {
		for digit := 0; digit < 10; digit++ {
			elements := strings.Split(strings.Repeat("0a ", digit%(most+1)), " ")
			some := strings.Split(strings.Repeat("0a ", digit%most+1), " ")
			makeAll(t, []makeCase{
				{"S={a};", string(rune('0' + digit)), 1, most, "S(0{" + strings.Join(elements[:len(elements)-1], ",") + "})", api.OK},
				{"S=<a>;", string(rune('0' + digit)), 1, most, "S(0<" + strings.Join(some[:len(some)-1], ",") + ">)", api.OK},
			})
		}
	}
	makeAll(t, []makeCase{
		// The count first, then the elements in their order.
		{"S={a|b};", "3010", 1, 3, "S(0{0a,1b,0a})", api.OK}, {"S=<a|b>;", "2010", 1, 3, "S(0<0a,1b,0a>)", api.OK}, {"S={{a}};", "2102", 1, 2, "S(0{0{0a},0{}})", api.OK}, {"S=<<a|b>c>;", "11011", 1, 2, "S(0<0<0a,1b>c,0<0a,0a>c>)", api.OK}, {"S=<<a|b>c>;", "110101", 1, 2, "S(0<0<0a,1b>c,0<1b>c>)", api.OK}, {"S=<<a|b>c>;", "11011101", 1, 2, "S(0<0<0a,1b>c,0<1b,0a>c>)", api.OK},
		// No digit is taken where nothing fits into it, nor for the one element that must be and may be.
		{"S={A}(b|c);A=;", "1", 1, 5, "S(0{}(1c))", api.OK}, {"S={A}(b|c);A=;", "1", 2, 5, "S(0{0A(0)}(0b))", api.OK}, {"S={A}(b|c);A=A;", "1", 9, 5, "S(0{}(1c))", api.OK}, {"S=<a>(b|c);", "1", 1, 1, "S(0<0a>(1c))", api.OK}, {"S=<a>(b|c);", "1", 1, 2, "S(0<0a,0a>(0b))", api.OK}, {"S=<A|a>;A=A;", "2", 9, 3, "S(0<1a,1a,1a>)", api.OK}, {"S=<A>|a;A=A;", "0", 9, 3, "S(1a)", api.OK}, {"S=<S>|{S}|a;", "", 1, 3, "S(1{})", api.OK}, {"S=<S>|{S}|a;", "1", 1, 3, "S(2a)", api.OK},
	})
}

// Trees of as many bytes as may be, and of one more.
func TestMakeBig(t *testing.T) {
	letters := func(n int) string { return strings.Repeat("a", n) }
	eight := func(n int) string { return "S=BBBBBBBB" + letters(n) + ";B=" + letters(240) + ";" }
	for n := 40; n <= 48; n++ {
		want := makeCase{eight(n), "", 2, 1, "S(0" + strings.Repeat("B(0"+letters(240)+")", 8) + letters(n) + ")", api.OK}
		if len(want.tree) > 2000 {
			want.tree, want.errno = "", api.ErrBig
		}
		makeAll(t, []makeCase{want})
	}
	// Whatever stands at the end.
	for _, end := range []string{"a", "aa", "()", "[]", "{}", "<>", "(a)", "B", "(B)", "[a]", "{a}", "<a>", "{<[a]>}"} {
		for n := 20; n < 48; n++ {
			grammar := "S=BBBBBBBB" + letters(n) + end + ";B=" + letters(240) + ";"
			for _, choices := range []string{"", "1111", "2222"} {
				want, _, errno := newModel(grammar).makeTree(choices, 2, 2)
				makeAll(t, []makeCase{{grammar, choices, 2, 2, want, errno}})
			}
		}
	}
}

// P1: far more than may be made is not made to its end.
func TestMakeFarTooBig(t *testing.T) {
	nines := strings.Repeat("9", 2000)
	fives := strings.Repeat("5", 2000)
	makeAll(t, []makeCase{
		{"S=" + strings.Repeat("S", 290) + "|;", "", 9, 1, "", api.ErrBig}, {"S=SSSSSSSSS|;", "", 9, 5, "", api.ErrBig}, {"S={{{{{S}}}}}|;", strings.Repeat("055555", 300), 9, 5, "", api.ErrBig}, {"S={{{{{S}}}}};", fives, 9, 5, "", api.ErrBig}, {"S=<<<<<S>>>>>|;", strings.Repeat("044444", 300), 9, 5, "", api.ErrBig}, {"S={S}{S}{S}{S}{S}{S};", nines, 9, 4, "", api.ErrBig},
		{"S=" + strings.Repeat("S", 290) + "|;", "1", 9, 1, "S(1)", api.OK}, {"S=" + strings.Repeat("S", 290) + "|;", "", 1, 1, "S(1)", api.OK}, {"S=" + strings.Repeat("S", 290) + "|;", "", 2, 1, "S(0" + strings.Repeat("S(1)", 290) + ")", api.OK}, {"S=" + strings.Repeat("S", 290) + "|;", "", 3, 1, "", api.ErrBig},
	})
}
