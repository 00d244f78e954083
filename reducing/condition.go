package reducing

import (
	"winnow/api"
	"winnow/marks"
)

func isCondition(text string) bool {
	if len(text) > api.MaxText {
		return false
	}
	for i := 0; i < len(text); i++ {
		if !mayStand(text, i) {
			return false
		}
	}
	return true
}

// mayStand tells whether a condition may have the byte that stands at a place.
func mayStand(text string, place int) bool {
	mark := marks.At(text, place)
	if mark == '!' {
		return place == 0 || marks.At(text, place-1) == ','
	}
	return mark == ',' || marks.IsLetter(mark)
}

// holds tells whether a condition holds for a word. The empty text is taken for
// one part without letters: it holds for every word, as no parts do.
func holds(condition string, word string) bool {
	begin := 0
	for begin <= len(condition) {
		end := partEnd(condition, begin)
		if !partHolds(condition[begin:end], word) {
			return false
		}
		begin = end + 1
	}
	return true
}

func partEnd(condition string, begin int) int {
	end := begin
	for end < len(condition) && condition[end] != ',' {
		end++
	}
	return end
}

func partHolds(part string, word string) bool {
	if marks.At(part, 0) == '!' {
		return !standsIn(part[1:], word)
	}
	return standsIn(part, word)
}

func standsIn(letters string, word string) bool {
	for at := 0; at+len(letters) <= len(word); at++ {
		if word[at:at+len(letters)] == letters {
			return true
		}
	}
	return false
}
