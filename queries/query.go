// Package queries reads queries, and knows what they ask for.
package queries

import (
	"strings"

	"loam/label"
)

// Query: which streams are matched, which of their lines are asked for, and
// what is measured of them.
type Query struct {
	Measure string // count, rate, bytes or mean; the empty text of a query of rows
	Span    int    // the number in brackets; 0 of a query of rows
	By      string // the name behind by; the empty text where there is none

	matchers []matcher
	filters  []filter
}

type matcher struct {
	not         bool
	name, value string
}

type filter struct {
	not  bool
	text string
}

// Matches: whether a stream with these labels is matched.
func (q *Query) Matches(labels string) bool {
	for _, m := range q.matchers {
		// No matcher has the empty value, so that it is never that of a name which is not there.
		if has := label.Value(labels, m.name) == m.value; has == m.not {
			return false
		}
	}
	return true
}

// Asks: whether a line of a matched stream is asked for.
func (q *Query) Asks(line string) bool {
	for _, f := range q.filters {
		if has := strings.Contains(line, f.text); has == f.not {
			return false
		}
	}
	return true
}
