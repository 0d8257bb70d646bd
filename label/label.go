// Package label knows which texts are labels, and what stands in them.
package label

import (
	"strings"

	"loam/api"
)

// Valid: whether a text is labels, as the document has them.
func Valid(text string) bool {
	previous := ""
	for range api.MaxLabels {
		pair, rest, more := strings.Cut(text, ",")
		name, value, whole := strings.Cut(pair, "=")
		if !whole || !IsName(name) || !IsValue(value) {
			return false
		}
		// No name is empty, so that the first one is above the empty text.
		if name <= previous {
			return false
		}
		if !more {
			return true
		}
		previous, text = name, rest
	}
	return false
}

// Value tells the value that labels give to a name: the empty text, which is
// no value, if they do not have this name.
func Value(labels string, name string) string {
	for pair := range strings.SplitSeq(labels, ",") {
		if one, value, _ := strings.Cut(pair, "="); one == name {
			return value
		}
	}
	return ""
}

// IsName: whether a text is a name.
func IsName(word string) bool {
	return hasWordLength(word) && all(word, isLetter)
}

// IsValue: whether a text is a value.
func IsValue(word string) bool {
	return hasWordLength(word) && all(word, isLetterOrDigit)
}

func hasWordLength(word string) bool {
	return 1 <= len(word) && len(word) <= api.MaxWord
}

func all(word string, good func(byte) bool) bool {
	for i := range len(word) {
		if !good(word[i]) {
			return false
		}
	}
	return true
}

func isLetter(b byte) bool {
	return 'a' <= b && b <= 'z'
}

func isLetterOrDigit(b byte) bool {
	return isLetter(b) || '0' <= b && b <= '9'
}
