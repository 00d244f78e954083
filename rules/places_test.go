package rules

import "testing"

func TestExpression(t *testing.T) {
	const grammar = "S=aB|;B=S;"
	for _, c := range []struct {
		name byte
		want int
	}{{'S', 2}, {'B', 8}, {'A', None}, {'a', None}, {0, None}} {
		if got := Expression(grammar, c.name); got != c.want {
			t.Errorf("Expression(%q) = %d, want %d", c.name, got, c.want)
		}
	}
	if got := Expression("", 'S'); got != None {
		t.Errorf("Expression of no text = %d", got)
	}
}

func TestAlternative(t *testing.T) {
	const grammar = "S=a(b|c)|[{|}|d]e|;T=|f;"
	for _, c := range []struct{ expression, number, want int }{
		{2, 0, 2}, {2, 1, 9}, {2, 2, 18}, {2, 3, None}, {2, 9, None},
		{4, 0, 4}, {4, 1, 6}, {4, 2, None},
		{10, 0, 10}, {10, 1, 14}, {10, 2, None},
		{11, 0, 11}, {11, 1, 12}, {11, 2, None},
		{21, 0, 21}, {21, 1, 22}, {21, 2, None},
		{None, 0, None}, {None, 1, None}, {len(grammar), 1, None},
	} {
		if got := Alternative(grammar, c.expression, c.number); got != c.want {
			t.Errorf("Alternative(%d, %d) = %d, want %d", c.expression, c.number, got, c.want)
		}
	}
}

func TestNext(t *testing.T) {
	const grammar = "S=a(b|c)|[{|}|d]e|;T=|f;"
	for _, c := range []struct{ alternative, want int }{
		{2, 9}, {9, 18}, {18, None}, {4, 6}, {6, None}, {10, 14}, {14, None}, {11, 12}, {12, None}, {21, 22}, {22, None}, {len(grammar), None},
	} {
		if got := Next(grammar, c.alternative); got != c.want {
			t.Errorf("Next(%d) = %d, want %d", c.alternative, got, c.want)
		}
	}
}

func TestFactors(t *testing.T) {
	const grammar = "S=aB([c]{<d>})|;B=;"
	for _, c := range []struct{ factor, behind int }{
		{2, 3}, {3, 4}, {4, 14}, {5, 8}, {6, 7}, {8, 13}, {9, 12}, {10, 11},
	} {
		if got := Behind(grammar, c.factor); got != c.behind || !IsFactor(grammar, c.factor) {
			t.Errorf("Behind(%d) = %d, want %d", c.factor, got, c.behind)
		}
	}
	for _, place := range []int{-1, 1, 7, 11, 12, 13, 14, 15, 18, len(grammar), len(grammar) + 1} {
		if IsFactor(grammar, place) {
			t.Errorf("a factor at %d", place)
		}
	}
}

// A bracket that nothing closes ends with the text, so that who goes on from
// Behind always gets ahead.
func TestBehindGetsAhead(t *testing.T) {
	if got := Behind("S=(a[b]", 2); got != 7 {
		t.Errorf("Behind = %d, want 7", got)
	}
}
