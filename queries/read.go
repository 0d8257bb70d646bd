package queries

import (
	"strconv"

	"loam/api"
	"loam/label"
	"loam/token"
)

// Read reads the text of a query. If it is none, the place is that of the
// first token with which no query goes on so.
func Read(text string) (query *Query, place int, ok bool) {
	r := reader{tokens: token.Cut(text)}
	if !r.whole() {
		return nil, r.tokens[0].Place, false
	}
	return &r.query, 0, true
}

// reader has a method for each rule of the grammar, which tells whether the
// text goes on by it. Only a token that fits is taken away: where a rule does
// not hold, the first token that is left is the one that is wrong.
type reader struct {
	tokens []token.Token // those that are still to be read: never none, since nothing takes the last one
	query  Query
}

func (r *reader) whole() bool {
	if r.tokens[0].Kind == token.Word {
		return r.measure() && r.end()
	}
	return r.rows() && r.end()
}

func (r *reader) rows() bool {
	return r.mark("{") && r.matchers() && r.mark("}") && r.filters()
}

func (r *reader) matchers() bool {
	for r.matcher() {
		if !r.mark(",") {
			return true
		}
	}
	return false
}

func (r *reader) matcher() bool {
	name, ok := r.take(token.Word, label.IsName)
	if !ok {
		return false
	}
	not, ok := r.sign("=")
	if !ok {
		return false
	}
	value, ok := r.take(token.String, label.IsValue)
	if !ok {
		return false
	}
	r.query.matchers = append(r.query.matchers, matcher{not: not, name: name, value: value})
	return true
}

func (r *reader) filters() bool {
	for {
		not, more := r.sign("|=")
		if !more {
			return true
		}
		text, ok := r.take(token.String, isAny)
		if !ok {
			return false
		}
		r.query.filters = append(r.query.filters, filter{not: not, text: text})
	}
}

func (r *reader) measure() bool {
	measure, ok := r.take(token.Word, isMeasure)
	if !ok || !r.mark("(") || !r.rows() || !r.span() || !r.mark(")") {
		return false
	}
	r.query.Measure = measure
	return r.by()
}

func (r *reader) span() bool {
	if !r.mark("[") {
		return false
	}
	digits, ok := r.take(token.Number, isSpan)
	if !ok {
		return false
	}
	r.query.Span, _ = spanOf(digits)
	return r.mark("]")
}

func (r *reader) by() bool {
	if _, more := r.take(token.Word, func(word string) bool { return word == "by" }); !more {
		return true
	}
	name, ok := r.take(token.Word, label.IsName)
	r.query.By = name
	return ok
}

// end looks, and takes nothing: see reader.
func (r *reader) end() bool {
	return r.tokens[0].Kind == token.End
}

// sign takes the mark that asks for something, or the one that rules it out.
func (r *reader) sign(asks string) (not bool, ok bool) {
	if r.mark("!=") {
		return true, true
	}
	return false, r.mark(asks)
}

func (r *reader) mark(wanted string) bool {
	_, ok := r.take(token.Mark, func(text string) bool { return text == wanted })
	return ok
}

// take takes the next token away, if it is of this kind and its text is good.
func (r *reader) take(kind token.Kind, good func(string) bool) (string, bool) {
	next := r.tokens[0]
	if next.Kind != kind || !good(next.Text) {
		return "", false
	}
	r.tokens = r.tokens[1:]
	return next.Text, true
}

func isAny(string) bool { return true }

func isMeasure(word string) bool {
	switch word {
	case "count", "rate", "bytes", "mean":
		return true
	}
	return false
}

func isSpan(digits string) bool {
	_, ok := spanOf(digits)
	return ok
}

func spanOf(digits string) (int, bool) {
	n, err := strconv.Atoi(digits)
	if err != nil || n < 1 || n > api.MaxTime {
		return 0, false
	}
	return n, true
}
