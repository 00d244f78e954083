package rules

import (
	"strings"
	"testing"

	"winnow/api"
)

type checkCase struct {
	grammar string
	errno   api.Errno
	place   int
}

func checkAll(t *testing.T, cases []checkCase) {
	t.Helper()
	for _, c := range cases {
		if errno, place := Check(c.grammar); errno != c.errno || place != c.place {
			t.Errorf("P3: Check(%.60q) = %d, %d, want %d, %d", c.grammar, errno, place, c.errno, c.place)
		}
	}
}

// agree compares Check with the model.
func agree(t *testing.T, grammar string) {
	t.Helper()
	errno, place := Check(grammar)
	if wantErrno, wantPlace := modelCheck(grammar); errno != wantErrno || place != wantPlace {
		t.Fatalf("P3: Check(%q) = %d, %d, want %d, %d", grammar, errno, place, wantErrno, wantPlace)
	}
}

func TestCheckExamples(t *testing.T) {
	checkAll(t, []checkCase{
		{"S=;", api.OK, 0}, {"S=aS|;", api.OK, 0}, {"", api.ErrForm, 0}, {"S=a", api.ErrForm, 3}, {"s=a;", api.ErrForm, 0}, {"S=(a];", api.ErrForm, 4}, {"S=a;;", api.ErrForm, 4}, {"S=((((((a))))));", api.ErrDeep, 7}, {"S=|||||||||||;", api.ErrMany, 11}, {"S=a;S=b;", api.ErrTwice, 4}, {"S=aB;", api.ErrName, 3}, {"S={a|B}[c];B=<b>;", api.OK, 0}, {"S=S|SS|a;", api.OK, 0}, {"S=xSy|a;", api.OK, 0},
	})
}

func TestCheckLong(t *testing.T) {
	a := func(n int) string { return strings.Repeat("a", n) }
	checkAll(t, []checkCase{
		{"S=" + a(296) + ";", api.OK, 0}, {"S=" + a(297) + ";", api.OK, 0}, {"S=" + a(298) + ";", api.ErrLong, 0}, {"S=" + a(1000000) + ";", api.ErrLong, 0},
		// Of a text that is too long nothing else is told.
		{a(300), api.ErrForm, 0}, {a(301), api.ErrLong, 0}, {"S=" + a(298) + ")", api.ErrLong, 0}, {"S=a;S=" + a(295) + ";", api.ErrLong, 0}, {"S=((((((" + a(293) + ";", api.ErrLong, 0},
		// What is within the bound may end too early, at the bound too.
		{"S=" + a(297) + "(", api.ErrForm, 300}, {"S=" + a(298), api.ErrForm, 300}, {"S=" + a(297) + ")", api.ErrForm, 299},
	})
}

func TestCheckForm(t *testing.T) {
	checkAll(t, []checkCase{
		{"S", api.ErrForm, 1}, {"S=", api.ErrForm, 2}, {"S=a|", api.ErrForm, 4}, {"S=(", api.ErrForm, 3}, {"S=(a", api.ErrForm, 4}, {"S=(a)", api.ErrForm, 5}, {"S=a;T", api.ErrForm, 5}, {"S=a;T=", api.ErrForm, 6},
		{"=a;", api.ErrForm, 0}, {"SS=a;", api.ErrForm, 1}, {"S==;", api.ErrForm, 2}, {"S;", api.ErrForm, 1}, {";", api.ErrForm, 0}, {"S=a)", api.ErrForm, 3}, {"S=();)", api.ErrForm, 5}, {"S=(;);", api.ErrForm, 3}, {"S=[a;", api.ErrForm, 4}, {"S=a;=b;", api.ErrForm, 4}, {"S=a;t=b;", api.ErrForm, 4}, {"S=a=b;", api.ErrForm, 3},
		{" S=a;", api.ErrForm, 0}, {"S =a;", api.ErrForm, 1}, {"S= a;", api.ErrForm, 2}, {"S=a; ", api.ErrForm, 4}, {"S=0;", api.ErrForm, 2}, {"S=,;", api.ErrForm, 2}, {"S=é;", api.ErrForm, 2}, {"S=a\x00;", api.ErrForm, 3}, {"\xff", api.ErrForm, 0},
		// The first byte that cannot stand there is told, not a later one, and not what is told of whole texts.
		{"S=)];", api.ErrForm, 2}, {"S=Q;S=)", api.ErrForm, 6}, {"S=a;S=b", api.ErrForm, 7}, {"S=Q;1", api.ErrForm, 4},
	})
}

func TestCheckBracketsMatch(t *testing.T) {
	for i, opening := range modelOpening {
		for j, closing := range modelClosing {
			want := checkCase{"S=" + string(opening) + "a" + string(closing) + ";", api.OK, 0}
			if i != j {
				want.errno, want.place = api.ErrForm, 4
			}
			checkAll(t, []checkCase{want})
		}
	}
}

func TestCheckMany(t *testing.T) {
	bars := func(n int) string { return strings.Repeat("|", n) }
	letters := strings.Repeat("a|", 10)
	checkAll(t, []checkCase{
		{"S=" + bars(9) + ";", api.OK, 0}, {"S=" + bars(10) + ";", api.ErrMany, 11}, {"S=" + letters[:19] + ";", api.OK, 0}, {"S=" + letters + ";", api.ErrMany, 21},
		// Each expression has a count of its own, and each rule begins anew.
		{"S=(" + bars(9) + ")" + bars(9) + ";", api.OK, 0}, {"S=" + bars(9) + "(" + bars(9) + ");", api.OK, 0}, {"S=" + bars(9) + "();" + "T=" + bars(9) + ";", api.OK, 0}, {"S=[" + bars(9) + "][" + bars(9) + "];", api.OK, 0},
		{"S=" + bars(5) + "(" + bars(9) + ")" + bars(5) + ";", api.ErrMany, 22}, {"S={[" + bars(9) + "]" + bars(10) + "};", api.ErrMany, 23}, {"S=;T=" + bars(10), api.ErrMany, 14},
		// It comes at its byte, ahead of all that comes later and behind all that comes sooner.
		{"S=" + bars(10), api.ErrMany, 11}, {"S=" + bars(11) + "1", api.ErrMany, 11}, {"S=" + bars(9) + "1|", api.ErrForm, 11}, {"S=" + bars(10) + "((((((", api.ErrMany, 11}, {"S=((((((" + bars(10), api.ErrDeep, 7}, {"S=;S=Q" + bars(10), api.ErrMany, 15},
	})
}

func TestCheckDeep(t *testing.T) {
	for i := range modelOpening {
		opening, closing := modelOpening[i:i+1], modelClosing[i:i+1]
		open := func(n int) string { return strings.Repeat(opening, n) }
		shut := func(n int) string { return strings.Repeat(closing, n) }
		checkAll(t, []checkCase{
			{"S=" + open(5) + shut(5) + ";", api.OK, 0}, {"S=" + open(6) + shut(6) + ";", api.ErrDeep, 7}, {"S=" + open(6), api.ErrDeep, 7}, {"S=" + open(5), api.ErrForm, 7}, {"S=([{<(" + opening, api.ErrDeep, 7},
			{"S=" + open(5) + shut(5) + open(5) + shut(5) + ";", api.OK, 0}, {"S=" + open(5) + shut(5) + open(6), api.ErrDeep, 17}, {"S=" + open(5) + shut(1) + open(2), api.ErrDeep, 9}, {"S=" + open(5) + "|" + opening, api.ErrDeep, 8}, {"S=;T=" + open(6), api.ErrDeep, 10},
			{"S=" + open(5) + "1" + opening, api.ErrForm, 7}, {"S=;S=Q" + open(6), api.ErrDeep, 11},
		})
	}
}

func TestCheckTwice(t *testing.T) {
	checkAll(t, []checkCase{
		{"S=;S=;", api.ErrTwice, 3}, {"S=;T=;S=;T=;", api.ErrTwice, 6}, {"S=;T=;T=;S=;", api.ErrTwice, 6}, {"A=B;B=A;B=;", api.ErrTwice, 8}, {"S=;S=;S=;", api.ErrTwice, 3},
		// A name without a rule is told only if no name has two, wherever they stand.
		{"S=Q;S=;", api.ErrTwice, 4}, {"S=Q;S=Q;", api.ErrTwice, 4},
	})
}

func TestCheckName(t *testing.T) {
	checkAll(t, []checkCase{
		{"S=Q;", api.ErrName, 2}, {"S=S;", api.OK, 0}, {"S=T;T=;", api.OK, 0}, {"S=TU;T=;", api.ErrName, 3}, {"S=;T=S(a[b{c<V>}]);", api.ErrName, 13}, {"S=RQ;", api.ErrName, 2}, {"Z=A;A=Z;", api.OK, 0}, {"S=QS;", api.ErrName, 2},
	})
	all := ""
	for _, name := range modelNames {
		all += string(name) + "=" + string(name) + ";"
	}
	checkAll(t, []checkCase{{all, api.OK, 0}, {all[4:] + "S=;", api.ErrTwice, 100}, {all[:100], api.OK, 0}, {all[:98] + "Z;", api.ErrName, 98}})
}

// What may go on in several ways is gone on in all ways that matter, and behind
// each of them stands every byte once.
func TestCheckShortTexts(t *testing.T) {
	checkLonger(t, "", 6)
}

func checkLonger(t *testing.T, text string, more int) {
	agree(t, text)
	for b := 0; more > 0 && b < 256; b++ {
		longer := text + string([]byte{byte(b)})
		errno, place := modelCheck(longer)
		if errno == api.ErrForm && place < len(longer) {
			agree(t, longer)
			agree(t, longer+"S=;")
		} else if strings.IndexByte("STa=;|()[{}", byte(b)) >= 0 {
			checkLonger(t, longer, more-1)
		}
	}
}

// dice are numbers that look as if they were thrown, and are the same each time.
type dice uint64

func (d *dice) throw(n int) int {
	*d = *d*6364136223846793005 + 1442695040888963407
	return int(uint64(*d)>>33) % n
}

func (d *dice) mark() string {
	const set = "aaaabzSTUSTU||||(((([[{{<<)]}>=;; 0,\x00\xff"
	at := d.throw(len(set))
	return set[at : at+1]
}

// writeExpression goes a little beyond the limits now and then.
func (d *dice) writeExpression(around int) string {
	text := ""
	for n := d.throw(12); n > 0; n-- {
		kind := d.throw(10)
		if kind < 4 && around < 6 {
			text += modelOpening[kind:kind+1] + d.writeExpression(around+1+d.throw(2)*d.throw(2)) + modelClosing[kind:kind+1]
		} else if kind < 7 {
			text += "|"
		} else {
			text += []string{"a", "z", "S", "T", "U"}[d.throw(5)]
		}
	}
	return text
}

func TestCheckLongerTexts(t *testing.T) {
	d := dice(1)
	met := map[api.Errno]int{}
	for n := 0; n < 15000; n++ {
		text := ""
		for _, name := range []string{"S", "T", "U", "A"}[:1+d.throw(4)] {
			text += name + "=" + d.writeExpression(d.throw(4)) + ";"
		}
		agree(t, text)
		errno, _ := Check(text)
		met[errno]++
		at := d.throw(len(text))
		agree(t, text[:at])
		agree(t, text[:at]+text[at+1:])
		agree(t, text[:at]+d.mark()+text[at:])
		agree(t, text[:at]+d.mark()+text[at+1:])
		agree(t, text+text[at:])
	}
	for _, errno := range []api.Errno{api.OK, api.ErrLong, api.ErrMany, api.ErrDeep, api.ErrName} {
		if met[errno] < 100 {
			t.Errorf("only %d of the texts have the answer %d: %v", met[errno], errno, met)
		}
	}
}

// P1: a place is answered with errors of the form alone, and lies in the text or at its end.
func TestCheckPlaces(t *testing.T) {
	d := dice(2)
	for n := 0; n < 20000; n++ {
		text := "S="[:d.throw(3)]
		for more := d.throw(320); more > 0; more-- {
			text += d.mark()
		}
		agree(t, text)
		if errno, place := Check(text); place < 0 || place > len(text) || (errno == api.OK || errno == api.ErrLong) && place != 0 {
			t.Fatalf("P1: Check(%q) = %d, %d", text, errno, place)
		}
	}
}
