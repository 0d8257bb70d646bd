package queries

import "testing"

func matches(t *testing.T, text string, labels string, want bool) {
	t.Helper()
	q, _, ok := Read(text)
	if !ok || q.Matches(labels) != want {
		t.Errorf("P5: %s: Matches(%q) is not %v", text, labels, want)
	}
}

func asks(t *testing.T, filters string, line string, want bool) {
	t.Helper()
	q, _, ok := Read(`{a="b"}` + filters)
	if !ok || q.Asks(line) != want {
		t.Errorf("P5: %s: Asks(%q) is not %v", filters, line, want)
	}
}

func TestMatchedStreams(t *testing.T) {
	matches(t, `{a="b"}`, "a=b", true)
	matches(t, `{a="b"}`, "a=c", false)
	matches(t, `{a="b"}`, "b=b", false)
	matches(t, `{a="b"}`, "b=a", false)
	matches(t, `{a="b"}`, "a=bb", false)
	matches(t, `{a="bb"}`, "a=b", false)
	matches(t, `{a="b"}`, "aa=b", false)
	matches(t, `{aa="b"}`, "a=b", false)
	matches(t, `{a="b"}`, "a=b,c=d", true)
	matches(t, `{c="d"}`, "a=b,c=d,e=f", true)
	matches(t, `{e="f"}`, "a=b,c=d,e=f", true)
	matches(t, `{c="f"}`, "a=b,c=d,e=f", false)
	matches(t, `{a!="b"}`, "a=b", false)
	matches(t, `{a!="b"}`, "a=c", true)
	matches(t, `{a!="b"}`, "c=b", true)
	matches(t, `{a="b",c="d"}`, "a=b,c=d", true)
	matches(t, `{c="d",a="b"}`, "a=b,c=d", true)
	matches(t, `{a="b",c="d"}`, "a=b,c=e", false)
	matches(t, `{a="b",c="d"}`, "a=b", false)
	matches(t, `{a="b",c="d"}`, "c=d", false)
	matches(t, `{a="b",a="b"}`, "a=b", true)
	matches(t, `{a="b",a="c"}`, "a=b", false)
	matches(t, `{a="b",a!="b"}`, "a=b", false)
	matches(t, `{a="b",a!="c"}`, "a=b", true)
	matches(t, `{a!="b",a!="c"}`, "a=c", false)
	matches(t, `{a!="b",a!="c"}`, "a=d", true)
	matches(t, `{a!="b",c="d"}`, "c=d", true)
	matches(t, `{a="1"}`, "a=01", false)
}

func TestLinesAskedFor(t *testing.T) {
	asks(t, ``, "", true)
	asks(t, ``, "x", true)
	asks(t, `|="x"`, "axb", true)
	asks(t, `|="x"`, "x", true)
	asks(t, `|="x"`, "", false)
	asks(t, `|="x"`, "X", false)
	asks(t, `|="xy"`, "x y", false)
	asks(t, `|="xyz"`, "xy", false)
	asks(t, `!="x"`, "axb", false)
	asks(t, `!="x"`, "ab", true)
	asks(t, `!="x"`, "", true)
	asks(t, `|=""`, "", true)
	asks(t, `|=""`, "x", true)
	asks(t, `!=""`, "", false)
	asks(t, `!=""`, "x", false)
	asks(t, `|="x"|="y"`, "yx", true)
	asks(t, `|="x"|="y"`, "x", false)
	asks(t, `|="x"|="y"`, "y", false)
	asks(t, `|="x"!="y"`, "x", true)
	asks(t, `|="x"!="y"`, "xy", false)
	asks(t, `!="x"!="y"`, "y", false)
	asks(t, `!="x"!="y"`, "x", false)
	asks(t, `!="x"!="y"`, "z", true)
	asks(t, `|="x"!="x"`, "x", false)
	asks(t, `|=" "`, "a b", true)
	asks(t, `|="a.b"`, "axb", false)
	asks(t, "|=\"\x00\xff\"", "a\x00\xffb", true)
	// A part of a rune's bytes is a part of the line.
	asks(t, "|=\"\xc3\"", "é", true)
	asks(t, "!=\"\xa9\"", "é", false)
}
