package trees

import (
	"strings"
	"testing"
)

func TestWord(t *testing.T) {
	for _, c := range []struct{ tree, want string }{
		{"S(0)", ""}, {"", ""}, {"S(0a)", "a"}, {"S(0{0a,1B(0<0b,0b>)}[0c])", "abbc"}, {"S(0xS(0xS(1a)y)y)", "xxayy"}, {"A(9zZ(0[]{}<0>(1))a)", "za"}, {"S(0abcdefghijklmnopqrstuvwxyz)", "abcdefghijklmnopqrstuvwxyz"}, {"`{@[AZ", ""}, {"S(0{" + strings.Repeat("0a,", 664) + "0a})", strings.Repeat("a", 665)},
	} {
		if got := Word(c.tree); got != c.want {
			t.Errorf("Word(%.40q) = %q, want %q", c.tree, got, c.want)
		}
	}
}
