// Package label knows which texts are labels.
package label

import (
	"strings"

	"loam/api"
)

// Valid: whether a text is labels, as the document has them.
func Valid(text string) bool {
	previous := ""
	for range api.MaxLabels {
		pair, rest, more := strings.Cut(text, ",")
		name, value, whole := strings.Cut(pair, "=")
		if !whole || !isName(name) || !isValue(value) {
			return false
		}
		// No name is empty, so that the first one is above the empty text.
		if name <= previous {
			return false
		}
		if !more {
			return true
		}
		previous, text = name, rest
	}
	return false
}

func isName(word string) bool {
	return hasWordLength(word) && all(word, isLetter)
}

func isValue(word string) bool {
	return hasWordLength(word) && all(word, isLetterOrDigit)
}

func hasWordLength(word string) bool {
	return 1 <= len(word) && len(word) <= api.MaxWord
}

func all(word string, good func(byte) bool) bool {
	for i := range len(word) {
		if !good(word[i]) {
			return false
		}
	}
	return true
}

func isLetter(b byte) bool {
	return 'a' <= b && b <= 'z'
}

func isLetterOrDigit(b byte) bool {
	return isLetter(b) || '0' <= b && b <= '9'
}
