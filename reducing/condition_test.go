package reducing

import (
	"strings"
	"testing"
)

func TestTextsThatAreConditions(t *testing.T) {
	for _, text := range []string{
		"", "a", "abc", "z", "!", "!a", "!abc", ",", "a,b,", ",,,", "a,b", "a,!b", "!a,b", "!,!", ",!", "!,", ",a", "a,", "a,,b", "!a,!b,!,,c", strings.Repeat("a", 300), strings.Repeat(",", 300), strings.Repeat("!,", 150), strings.Repeat(",!", 150),
	} {
		if !isCondition(text) || !conditionForm.MatchString(text) {
			t.Errorf("P9: %.40q is a condition", text)
		}
	}
	for _, text := range []string{
		"A", "aA", "a!", "!!", "!!a", "a!b", "!a!", "a,b!", ",a!", "a,!!b", " ", "a b", " a", "a ", "a, b", "a\n", "0", "a;b", "a|b", "(a)", "é", "\x00", "a\x00", "\xff", "`", "{", "@", "[", strings.Repeat("a", 301), strings.Repeat(",", 301), strings.Repeat("!", 300), strings.Repeat("a", 299) + "A", "A" + strings.Repeat("a", 299), strings.Repeat("a", 5000000), strings.Repeat("!,", 5000000), strings.Repeat("?", 5000000),
	} {
		if isCondition(text) {
			t.Errorf("P9: %.40q is no condition", text)
		}
	}
}

// Each byte is tried alone and at each place of another condition.
func TestEachByteInACondition(t *testing.T) {
	for b := 0; b < 256; b++ {
		one := string([]byte{byte(b)})
		for _, other := range []string{"", "a", "!a", "ab,c", ",", "!,!"} {
			for at := 0; at <= len(other); at++ {
				text := other[:at] + one + other[at:]
				if got := isCondition(text); got != conditionForm.MatchString(text) {
					t.Errorf("P9: isCondition(%q) = %v", text, got)
				}
			}
		}
	}
}

// All short conditions are asked of all short words.
func TestConditionsAsTheModel(t *testing.T) {
	words := textsUpTo("ab", 5)
	held, failed, none := 0, 0, 0
	for _, text := range textsUpTo("ab,!", 6) {
		is := isCondition(text)
		if is != conditionForm.MatchString(text) {
			t.Fatalf("P9: isCondition(%q) = %v", text, is)
		}
		if !is {
			none++
			continue
		}
		for _, word := range words {
			want := modelHolds(text, word)
			if got := holds(text, word); got != want {
				t.Fatalf("P9: holds(%q, %q) = %v", text, word, got)
			}
			if want {
				held++
			} else {
				failed++
			}
		}
	}
	if held < 1000 || failed < 1000 || none < 1000 {
		t.Errorf("too few of a kind: %d hold, %d fail, %d are no conditions", held, failed, none)
	}
}

func TestConditionsAndWords(t *testing.T) {
	long := strings.Repeat("a", 299)
	for _, c := range []struct{ condition, holds, fails string }{
		{"", "- a abc", ""}, {",", "- a", ""}, {",,,", "- a", ""}, {"!", "", "- a"}, {"a,!", "", "- a"}, {"!,a", "", "- a"}, {",!", "", "- a"},
		{"a", "a ba ab bab", "- b bb"}, {"ab", "ab aab abb cabc", "- a b ba aa acb"}, {"a,b", "ab ba acb", "a b - c"}, {"ab,bc", "abc abbc bcab", "ab bc acbc"}, {"aba,bab", "abab baba", "aba bab abba"},
		{"!a", "- b bcd", "a ab ba"}, {"!ab", "- a b ba acb", "ab aab cabc"}, {"a,!b", "a ca", "- b ab"}, {"!b,a", "a ca", "- b ab"}, {"!a,!b", "- c", "a b ab cb"}, {"a,!a", "", "- a b"}, {"a,!aa", "a aba", "- aa baa"}, {"a,,b", "ab", "a b"}, {"aab", "aaab", "abab"}, {"z,!y", "z zx", "zy x"}, {"a,a,a", "a", "-"},
		{long + "b", "a" + long + "b " + long + "bb", long + " b" + long + " a"}, {"!" + long, long[1:] + " " + long[1:] + "b" + long[1:], long + " b" + long},
	} {
		for _, word := range strings.Fields(c.holds) {
			if !holds(c.condition, strings.Trim(word, "-")) {
				t.Errorf("P9: %.40q holds for %.40q", c.condition, word)
			}
		}
		for _, word := range strings.Fields(c.fails) {
			if holds(c.condition, strings.Trim(word, "-")) {
				t.Errorf("P9: %.40q does not hold for %.40q", c.condition, word)
			}
		}
	}
}
