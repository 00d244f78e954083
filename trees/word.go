package trees

import "winnow/marks"

// Word answers the word of a tree: its letters, in their order.
func Word(tree string) string {
	letters := make([]byte, 0)
	for i := 0; i < len(tree); i++ {
		if marks.IsLetter(tree[i]) {
			letters = append(letters, tree[i])
		}
	}
	return string(letters)
}
