package trees

import "winnow/marks"

// Elements answers how many trees stand side by side in the bracket that opens
// at a place of a tree.
func Elements(tree string, opening int) int {
	if marks.IsClosing(marks.At(tree, opening+1)) {
		return 0
	}
	count := 1
	deep := 1
	for i := opening + 1; i < len(tree) && deep > 0; i++ {
		mark := marks.At(tree, i)
		if marks.IsOpening(mark) {
			deep++
		}
		if marks.IsClosing(mark) {
			deep--
		}
		if mark == ',' && deep == 1 {
			count++
		}
	}
	return count
}

// MostElements answers how many elements the longest list of a tree has. Of a
// tree without lists it is 1 all the same: the brackets of names count too.
func MostElements(tree string) int {
	most := 0
	for i := 0; i < len(tree); i++ {
		if marks.IsOpening(tree[i]) {
			most = greater(most, Elements(tree, i))
		}
	}
	return most
}
