package trees

import (
	"strings"
	"testing"
)

func TestElements(t *testing.T) {
	const tree = "S(0{0a,1B(0<0b,0b>)}[0c]{}[](0))"
	for _, c := range []struct{ opening, want int }{
		{1, 1}, {3, 2}, {9, 1}, {11, 2}, {20, 1}, {24, 0}, {26, 0}, {28, 1},
	} {
		if got := Elements(tree, c.opening); got != c.want {
			t.Errorf("Elements at %d = %d, want %d", c.opening, got, c.want)
		}
	}
	for _, c := range []struct {
		text string
		want int
	}{
		{"{0a,0a,0a},0a", 3}, {"{0{0,0},0{0,0,0}}", 2}, {"<0(0[0{0,0,0,0}])>", 1},
		// Of a text that is no tree there is an answer too.
		{"", 1}, {"{", 1}, {"{0,0", 2}, {"{0,{0,", 2},
	} {
		if got := Elements(c.text, 0); got != c.want {
			t.Errorf("Elements of %q = %d, want %d", c.text, got, c.want)
		}
	}
}

func TestMostElements(t *testing.T) {
	for _, c := range []struct {
		tree string
		want int
	}{
		{"S(0)", 1}, {"S(0{}[])", 1}, {"S(0{0a}<0a>)", 1}, {"S(0{0a,0a}<0a>)", 2}, {"S(0{0a}<0a,0a,0a>)", 3}, {"S(0{0{0a,0a,0a},0{0a,0a}})", 3}, {"S(0{0{0a},0{0a}})", 2}, {"S(0{" + strings.Repeat("0a,", 664) + "0a})", 665}, {"", 0},
	} {
		if got := MostElements(c.tree); got != c.want {
			t.Errorf("MostElements(%.40q) = %d, want %d", c.tree, got, c.want)
		}
	}
}
