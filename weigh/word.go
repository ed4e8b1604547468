package weigh

import "tropica/api"

// checkWords: all that is wrong with one is told ahead of what is wrong with the next one.
func checkWords(words ...[]int) api.Errno {
	for _, w := range words {
		switch {
		case len(w) > api.MaxWord:
			return api.ErrSize
		case !areLabels(w):
			return api.ErrRange
		}
	}
	return api.OK
}

// areLabels: the empty one is none that a word may have.
func areLabels(word []int) bool {
	for _, label := range word {
		if label < 1 || label > api.MaxLabel {
			return false
		}
	}
	return true
}

// labelAt a place of a word; Empty behind its end.
func labelAt(word []int, at int) int {
	if at >= len(word) {
		return api.Empty
	}
	return word[at]
}

// behind a label: the place in a word, and whether that label may come at the place where one is.
func behind(word []int, at, label int) (int, bool) {
	if label == api.Empty {
		return at, true
	}
	// No label is Empty, so that none fits behind the word's end.
	return at + 1, labelAt(word, at) == label
}
