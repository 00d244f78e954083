package marks

import (
	"strings"
	"testing"
)

func TestBytes(t *testing.T) {
	for n := 0; n < 256; n++ {
		mark := byte(n)
		in := func(set string) bool { return strings.IndexByte(set, mark) >= 0 }
		for _, c := range []struct {
			name string
			got  bool
			want bool
		}{
			{"IsLetter", IsLetter(mark), in("abcdefghijklmnopqrstuvwxyz")},
			{"IsName", IsName(mark), in("ABCDEFGHIJKLMNOPQRSTUVWXYZ")},
			{"IsDigit", IsDigit(mark), in("0123456789")},
			{"IsOpening", IsOpening(mark), in("([{<")},
			{"IsClosing", IsClosing(mark), in(")]}>")},
		} {
			if c.got != c.want {
				t.Errorf("%s(%q) = %v", c.name, mark, c.got)
			}
		}
	}
}

func TestClosing(t *testing.T) {
	for _, pair := range []string{"()", "[]", "{}", "<>"} {
		if got := Closing(pair[0]); got != pair[1] {
			t.Errorf("Closing(%q) = %q", pair[0], got)
		}
		if got := Closing(pair[1]); got != 0 {
			t.Errorf("Closing(%q) = %q", pair[1], got)
		}
	}
}

func TestAtAnswersAtEveryPlace(t *testing.T) {
	const far = int(^uint(0) >> 1)
	for _, c := range []struct {
		text  string
		place int
		want  byte
	}{
		{"ab", 0, 'a'}, {"ab", 1, 'b'}, {"ab", 2, 0}, {"ab", -1, 0}, {"", 0, 0}, {"ab", far, 0}, {"ab", -far - 1, 0}, {"\xff", 0, 0xff},
	} {
		if got := At(c.text, c.place); got != c.want {
			t.Errorf("At(%q, %d) = %d, want %d", c.text, c.place, got, c.want)
		}
	}
}
