package parsing

import "winnow/api"

// tooMany are more bytes than a tree may have.
const tooMany = api.MaxTree + 1

// A table tells of a kind of part that begins at a place of the grammar how
// many bytes it has at least, if a span of the word is its word. Spans are
// named by where they begin and end.
type table struct {
	ends  int // how many places a span of the word may begin or end at
	bytes []int
}

// newTable makes a table that knows of no part yet.
func newTable(grammar string, word string) table {
	ends := len(word) + 1
	t := table{ends: ends, bytes: make([]int, len(grammar)*ends*ends)}
	for i := 0; i < len(t.bytes); i++ {
		t.bytes[i] = tooMany
	}
	return t
}

func (t *table) index(place int, from int, to int) int {
	return (place*t.ends+from)*t.ends + to
}

// least answers tooMany where there is no part, or none that is short enough.
func (t *table) least(place int, from int, to int) int {
	i := t.index(place, from, to)
	if i < 0 || i >= len(t.bytes) {
		return tooMany
	}
	return t.bytes[i]
}

// lower notes how many bytes a part has, and tells whether they are fewer than
// those of the parts that were known.
func (t *table) lower(place int, from int, to int, bytes int) bool {
	i := t.index(place, from, to)
	if i < 0 || i >= len(t.bytes) || t.bytes[i] <= bytes {
		return false
	}
	t.bytes[i] = bytes
	return true
}
