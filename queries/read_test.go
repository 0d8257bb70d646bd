package queries

import (
	"reflect"
	"regexp"
	"slices"
	"strings"
	"testing"

	"loam/token"
)

func reads(t *testing.T, text string, want Query) {
	t.Helper()
	got, place, ok := Read(text)
	if !ok || place != 0 {
		t.Errorf("P5: Read(%q) = %d, %v", text, place, ok)
		return
	}
	if !reflect.DeepEqual(*got, want) {
		t.Errorf("P5: Read(%q) = %v, want %v", text, *got, want)
	}
}

func TestQueriesOfRows(t *testing.T) {
	a := matcher{false, "a", "b"}
	reads(t, `{a="b"}`, Query{matchers: []matcher{a}})
	reads(t, ` { a = "b" } `, Query{matchers: []matcher{a}})
	reads(t, `{a!="b"}`, Query{matchers: []matcher{{true, "a", "b"}}})
	reads(t, `{a="b",abcdef!="012xyz" , a="b"}`, Query{matchers: []matcher{a, {true, "abcdef", "012xyz"}, a}})
	reads(t, `{count="by",by="0"}`, Query{matchers: []matcher{{false, "count", "by"}, {false, "by", "0"}}})
	reads(t, `{a="b"}|="x"!=""`, Query{matchers: []matcher{a}, filters: []filter{{false, "x"}, {true, ""}}})
	reads(t, `{a="b"} != " X! " |= "{a=}"`, Query{matchers: []matcher{a}, filters: []filter{{true, " X! "}, {false, "{a=}"}}})
	reads(t, "{a=\"b\"}|=\"\x00\xff\n\"", Query{matchers: []matcher{a}, filters: []filter{{false, "\x00\xff\n"}}})
}

func TestMeasures(t *testing.T) {
	a := []matcher{{false, "a", "b"}}
	for _, m := range []string{"count", "rate", "bytes", "mean"} {
		reads(t, m+`({a="b"}[7])`, Query{Measure: m, Span: 7, matchers: a})
		reads(t, m+`({a="b"}[7])by zone`, Query{Measure: m, Span: 7, By: "zone", matchers: a})
	}
	reads(t, ` rate ( {a="b"} |= "x" != "y" [ 007 ] ) by by `, Query{Measure: "rate", Span: 7, By: "by", matchers: a, filters: []filter{{false, "x"}, {true, "y"}}})
	reads(t, `mean({a="b"}[1])by abcdef`, Query{Measure: "mean", Span: 1, By: "abcdef", matchers: a})
	reads(t, `mean({a="b"}[1000000])by mean`, Query{Measure: "mean", Span: 1000000, By: "mean", matchers: a})
	reads(t, `count({a="b"}[`+strings.Repeat("0", 150)+`1000000])`, Query{Measure: "count", Span: 1000000, matchers: a})
}

// TestPlaces: what is wrong stands behind an @ that is not a part of the query.
func TestPlaces(t *testing.T) {
	for about, texts := range map[string][]string{
		"the end":                    {"@", "  @", "{@", "{ @", "{a@", "{a=@", "{a!=@", `{a="b"@`, `{a="b" @`, `{a="b",@`, `{a="b"}|=@`, `{a="b"}|= @`, `{a="b"}!=@`, "count@", "rate(@", "mean({@", `mean({a="b"}@`, `mean({a="b"}[@`, `mean({a="b"}[1@`, `mean({a="b"}[1]@`, `mean({a="b"}[1])by@`, `mean({a="b"}[1])by @`},
		"a byte that begins none":    {"@?", "@A", "@é", "@\x00", " @\t", "{@?", "{a@:", "{a=@'b'}", `{a="b"@;`, `{a="b"}@;`, `{a="b"}@.`, `{a="b"} @|`, `{a="b"} @!`, `count@?`, `count({a="b"}[@-1])`, `count({a="b"}[1@.5])`, `count({a="b"}[1])@;`, `count({a="b"}[1])by @_`},
		"a half of a mark":           {"@!", "@|", "{a@!", "{a@! =", "{a@!\"b\"}", `{a="b"}@!`, `{a="b"}@|`, `{a="b"} @| ="x"`, `{a="b"}@|"x"`, `{a="b"}@||="x"`, `count({a="b"}@![1])`},
		"a string without its end":   {`@"`, `{@"`, `{a@"`, `{a=@"`, `{a=@"b}`, `{a="b"}|=@"`, `{a="b"}|="x"!=@"y`, `{a="b"}@"`, `count({a="b"}|=@"x[1])`, `{a="b"@"`},
		"another beginning":          {"@}", "@(", "@[", "@=", "@,", "@!=", "@|=", "@7", `@""`, `@"x"`, "@({", `@a="b"`},
		"no measure":                 {"@sum", `@counts({a="b"}[1])`, "@coun", "@a", "@by", "@bytess", "@meanmean"},
		"no name":                    {"{@}", "{@,", `{@"a"="b"}`, `{@1="b"}`, "{@{", "{@=", `{@abcdefg="b"}`, `{a="b",@abcdefg`, `{a="b",@}`, `{a="b",@,`, `{a="b" , @"`},
		"no sign":                    {"{a@}", `{a@"b"}`, "{a @b", "{a@1", "{a@|=", "{a@,", "{a@("},
		"no value":                   {"{a=@b}", "{a=@1}", "{a=@=", "{a=@}", `{a=@""}`, `{a=@"B"}`, `{a=@"abcdefg"}`, `{a=@"b "}`, `{a!=@"é"}`, `{a!=@"-1"}`, "{a=@\"b\x00\"}"},
		"no end of the matchers":     {`{a="b"@)`, `{a="b"@c`, `{a="b"@"c"`, `{a="b"@=`, `{a="b"@{`, `{a="b"@|=`, `{a="b"@1`},
		"behind the matchers":        {`{a="b"}@{`, `{a="b"}@}`, `{a="b"}@,`, `{a="b"}@=`, `{a="b"}@[1]`, `{a="b"}@)`, `{a="b"}@(`, `{a="b"}@x`, `{a="b"}@1`, `{a="b"}@"x"`, `{a="b"}@by a`},
		"no string of a filter":      {`{a="b"}|=@x`, `{a="b"}|=@1`, `{a="b"}!=@=`, `{a="b"}|=@|=`, `{a="b"}|=@}`},
		"behind a filter":            {`{a="b"}|="x"@"y"`, `{a="b"}|="x"@,`, `{a="b"}|="x"@[1]`, `{a="b"}|="x"@x`, `{a="b"}!="x"@=`},
		"no measure's bracket":       {`count@{a="b"}`, "count@[", "count @count", `count@"("`, "count@)", "count@1"},
		"no rows of a measure":       {"count(@)", "count(@(", "count(@[", "count(@count", "count(@1", `count(@"x"`},
		"no span":                    {`count({a="b"}@)`, `count({a="b"}@(`, `count({a="b"}@]`, `count({a="b"}@1`, `count({a="b"}@by`, `count({a="b"}|="x"@)`, `count({a="b"}@,`},
		"no number":                  {`count({a="b"}[@])`, `count({a="b"}[@x])`, `count({a="b"}[@"1"])`, `count({a="b"}[@[`, `count({a="b"}[@0])`, `count({a="b"}[@000])`, `count({a="b"}[@1000001])`, `count({a="b"}[@01000001])`, `count({a="b"}[@18446744073709551617])`, `count({a="b"}[@9223372036854775808])`, `count({a="b"}[@` + strings.Repeat("9", 150)},
		"no end of the span":         {`count({a="b"}[1@)`, `count({a="b"}[1 @2])`, `count({a="b"}[1@x])`, `count({a="b"}[1@,2])`, `count({a="b"}[1@[`},
		"no end of the measure":      {`count({a="b"}[1]@]`, `count({a="b"}[1]@[1]`, `count({a="b"}[1]@by a)`, `count({a="b"}[1]@|="x")`, `count({a="b"}[1]@}`},
		"behind the measure":         {`count({a="b"}[1])@)`, `count({a="b"}[1])@|="x"`, `count({a="b"}[1])@count`, `count({a="b"}[1])@bya`, `count({a="b"}[1])@b`, `count({a="b"}[1])@{`, `count({a="b"}[1])@"by"`, `count({a="b"}[1])@1`},
		"no name behind by":          {`count({a="b"}[1])by @1`, `count({a="b"}[1])by@"a"`, `count({a="b"}[1])by @abcdefg`, `count({a="b"}[1])by@(`, `count({a="b"}[1])by@,`},
		"behind the name":            {`count({a="b"}[1])by a@,`, `count({a="b"}[1])by a @b`, `count({a="b"}[1])by a@1`, `count({a="b"}[1])by a@)`, `count({a="b"}[1])by by @by`},
		"the first of several wrong": {"@? ! \"", `{@} ?`, `{a=@b} "`, `count({a="b"}[@0]) by 7`, `@x {a="b"}`, `{@abcdefg=b`, `{a=@"" "`},
	} {
		for _, marked := range texts {
			want := strings.Index(marked, "@")
			text := strings.Replace(marked, "@", "", 1)
			if q, place, ok := Read(text); q != nil || place != want || ok {
				t.Errorf("P5: %s: Read(%.60q) = %v, %d, %v, want %d", about, text, q, place, ok, want)
			}
		}
	}
}

const (
	rowsPattern    = ` *{ *[a-z]{1,6} *!?= *"[a-z0-9]{1,6}" *(?:, *[a-z]{1,6} *!?= *"[a-z0-9]{1,6}" *)*} *(?:[!|]= *"[^"]*" *)*`
	measurePattern = ` *(?:count|rate|bytes|mean) *\(` + rowsPattern + `\[ *0*(?:[1-9][0-9]{0,5}|1000000) *\] *\) *(?:by +[a-z]{1,6} *)?`
)

var queryPattern = regexp.MustCompile(`^(?:` + rowsPattern + `|` + measurePattern + `)$`)

// endings: behind the beginning of a query one of these comes to its end.
func endings() []string {
	var list []string
	for _, more := range []string{"", `{a="b"}`, `a="b"}`, `="b"}`, `"b"}`, `}`, `"x"`} {
		list = append(list, more, more+"[1])", "("+more+"[1])")
	}
	return append(list, "1])", "])", ")", "a")
}

// expectedPlace finds the first token behind which no ending makes a query of the text.
func expectedPlace(text string) (int, bool) {
	if queryPattern.MatchString(text) {
		return 0, true
	}
	list := token.Cut(text)
	for i, one := range list[:len(list)-1] {
		// The blank keeps the ending apart from the token.
		if ahead := text[:list[i+1].Place] + " "; !goesOn(ahead) {
			return one.Place, false
		}
	}
	return list[len(list)-1].Place, false
}

func goesOn(ahead string) bool {
	for _, ending := range endings() {
		if queryPattern.MatchString(ahead + ending) {
			return true
		}
	}
	return false
}

// changed: a query's tokens with each piece put in, or put in a token's place,
// or ahead of nothing more.
func changed(query []string) [][]string {
	pieces := []string{"", "a", "by", "count", "abcdefg", "0", "7", "1000001", `"b"`, `""`, `"B"`, "=", "!=", "|=", "{", "}", "(", ")", "[", "]", ",", "!", "|", `"`, "?", `a="b"`, `|="x"`}
	var list [][]string
	for i := range query {
		for _, piece := range pieces {
			ahead := slices.Concat(query[:i], []string{piece})
			list = append(list, slices.Concat(ahead, query[i:]), slices.Concat(ahead, query[i+1:]), ahead)
		}
	}
	return list
}

// Each changed query is read as the patterns and the endings above say.
func TestChangedQueries(t *testing.T) {
	lists := slices.Concat(
		changed([]string{"{", "a", "=", `"b"`, ",", "c", "!=", `"d"`, "}", "|=", `"x"`, "!=", `""`}),
		changed([]string{"count", "(", "{", "a", "=", `"b"`, "}", "!=", `"x"`, "[", "7", "]", ")", "by", "c"}),
		changed([]string{"mean", "(", "{", "a", "!=", `"b"`, "}", "[", "007", "]", ")"}),
	)
	good := 0
	for _, list := range lists {
		for _, blank := range []string{" ", ""} {
			text := strings.Join(list, blank)
			want, wantOK := expectedPlace(text)
			_, place, ok := Read(text)
			if place != want || ok != wantOK {
				t.Errorf("P5: Read(%q) = %d, %v, want %d, %v", text, place, ok, want, wantOK)
			}
			if ok {
				good++
			}
		}
	}
	if good < 100 {
		t.Errorf("only %d of the changed queries are queries", good)
	}
}
