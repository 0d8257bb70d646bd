package loam_test

import (
	"slices"
	"strconv"
	"strings"
	"testing"

	"loam/api"
	"loam/loam"
)

// all asks for every line that the stores of these tests keep.
const all = `{none!="x"}`

var (
	get = api.Row{Labels: "app=web,zone=a", Time: 5, Line: "get 7"}
	put = api.Row{Labels: "app=web,zone=b", Time: 5, Line: "put 12"}
	num = api.Row{Labels: "app=web,zone=a", Time: 9, Line: "12"}
	neg = api.Row{Labels: "app=db", Time: 3, Line: "-4"}
)

func TestSecondExample(t *testing.T) {
	s := example(t)
	rows(t, s, `{app="web"}`, 0, 100, 10, false, get, put, num)
	rows(t, s, `{app="web"} |= "1"`, 0, 100, 10, false, put, num)
	rows(t, s, `{app="web"} |= "1"`, 0, 100, 1, true, num)
	rows(t, s, `{zone!="a"}`, 0, 100, 10, false, neg, put)
}

func TestFourthExample(t *testing.T) {
	s := example(t)
	refused(t, s, `{app="web"`, 0, 100, 10, api.ErrQuery, 10)
	refused(t, s, `{app = web}`, 0, 100, 10, api.ErrQuery, 7)
	refused(t, s, `count({a="b"}[0])`, 0, 100, 10, api.ErrQuery, 14)
}

func TestOrdinaryQueries(t *testing.T) {
	s := example(t)
	bothWays(t, s, all, 0, 100, neg, get, put, num)
	bothWays(t, s, `{app="db"}`, 0, 100, neg)
	bothWays(t, s, `{zone="b"}`, 0, 100, put)
	bothWays(t, s, ` { zone = "b" , app = "web" } `, 0, 100, put)
	bothWays(t, s, `{zone="b",app="db"}`, 0, 100)
	bothWays(t, s, `{app="web",app="db"}`, 0, 100)
	bothWays(t, s, `{app!="web",app!="db"}`, 0, 100)
	bothWays(t, s, `{app!="web"}`, 0, 100, neg)
	bothWays(t, s, `{app="we"}`, 0, 100)
	bothWays(t, s, `{web="app"}`, 0, 100)
	bothWays(t, s, `{x="y"}`, 0, 100)
	bothWays(t, s, all+`|="t"`, 0, 100, get, put)
	bothWays(t, s, all+`|="t"|="7"`, 0, 100, get)
	bothWays(t, s, all+`|="t" != "7"`, 0, 100, put)
	bothWays(t, s, all+`!="t"`, 0, 100, neg, num)
	bothWays(t, s, all+`!="t"!="4"`, 0, 100, num)
	bothWays(t, s, all+`|=""`, 0, 100, neg, get, put, num)
	bothWays(t, s, all+`!=""`, 0, 100)
	bothWays(t, s, all+`|=" "`, 0, 100, get, put)
	bothWays(t, s, all+`|="GET"`, 0, 100)
	bothWays(t, loam.New(), all, 0, 100)
}

func TestRowsOfARange(t *testing.T) {
	s := example(t)
	bothWays(t, s, all, 3, 10, neg, get, put, num)
	bothWays(t, s, all, 3, 9, neg, get, put)
	bothWays(t, s, all, 4, 10, get, put, num)
	bothWays(t, s, all, 5, 6, get, put)
	bothWays(t, s, all, 6, 9)
	for _, time := range []int{0, 3, 5, 9, api.MaxTime, api.MaxTime + 1} {
		bothWays(t, s, all, time, time)
	}
}

func TestRowsAtTheEdgesOfTime(t *testing.T) {
	s := loam.New()
	push(t, s, "a=b", 0, "first", api.OK)
	push(t, s, "a=b", api.MaxTime, "last", api.OK)
	first := api.Row{Labels: "a=b", Time: 0, Line: "first"}
	last := api.Row{Labels: "a=b", Time: api.MaxTime, Line: "last"}
	bothWays(t, s, all, 0, api.MaxTime+1, first, last)
	bothWays(t, s, all, 0, api.MaxTime, first)
	bothWays(t, s, all, 0, 1, first)
	bothWays(t, s, all, 1, api.MaxTime+1, last)
	bothWays(t, s, all, api.MaxTime, api.MaxTime+1, last)
	bothWays(t, s, all, api.MaxTime+1, api.MaxTime+1)
}

func TestRangeIsChecked(t *testing.T) {
	s := example(t)
	for _, r := range [][2]int{
		{-1, 5}, {-1, -1}, {-1, api.MaxTime + 1}, {5, 4}, {1, 0}, {0, -1}, {0, api.MaxTime + 2}, {api.MaxTime + 1, api.MaxTime},
		{api.MaxTime + 2, api.MaxTime + 2}, {leastInt, mostInt}, {mostInt, leastInt}, {0, mostInt}, {0, leastInt}, {leastInt, 5}, {mostInt, mostInt}, {0, 1 << 32},
	} {
		refused(t, s, all, r[0], r[1], 10, api.ErrRange, 0)
	}
}

// many: a store with lines of several streams at each of several times; its
// rows, sorted by hand.
func many(t *testing.T) (*loam.Store, []api.Row) {
	t.Helper()
	s := loam.New()
	var list []api.Row
	for time := range 5 {
		for _, labels := range six {
			for i := range 3 {
				list = append(list, api.Row{Labels: labels, Time: time, Line: strconv.Itoa(9 - i)})
			}
		}
	}
	// Streams may be pushed in any order, one's lines not.
	for i := range six {
		for _, row := range list {
			if row.Labels == six[(i*5+2)%6] {
				push(t, s, row.Labels, row.Time, row.Line, api.OK)
			}
		}
	}
	return s, list
}

func TestRowsOfOneTimeAreInTheOrderOfLabels(t *testing.T) {
	s, list := many(t)
	for time := range 5 {
		bothWays(t, s, all, time, time+1, list[time*18:time*18+18]...)
	}
	bothWays(t, s, all, 1, 3, list[18:54]...)
}

func TestLimitLeavesTheFirstRows(t *testing.T) {
	s, list := many(t)
	turned := slices.Clone(list)
	slices.Reverse(turned)
	for limit := range api.MaxRows + 1 {
		rows(t, s, all, 0, 100, limit, false, list[:limit]...)
		rows(t, s, all, 0, 100, limit, true, turned[:limit]...)
		rows(t, s, all, 2, 3, limit, false, list[36:36+min(limit, 18)]...)
		rows(t, s, all, 2, 3, limit, true, turned[36:36+min(limit, 18)]...)
	}
}

// Lines that are not asked for do not count for the limit.
func TestLimitCountsRowsAlone(t *testing.T) {
	s := loam.New()
	for i := range 200 {
		push(t, s, "a=b", i, strconv.Itoa(i), api.OK)
		if i%10 == 9 {
			push(t, s, "c=d", i, "x", api.OK)
		}
	}
	rows(t, s, `{a="b"} |= "9" != "19"`, 50, 150, 2, false, api.Row{Labels: "a=b", Time: 59, Line: "59"}, api.Row{Labels: "a=b", Time: 69, Line: "69"})
	rows(t, s, `{c="d"}`, 0, 200, 1, true, api.Row{Labels: "c=d", Time: 199, Line: "x"})
}

func TestLimitIsChecked(t *testing.T) {
	s := example(t)
	for _, limit := range []int{-1, api.MaxRows + 1, leastInt, mostInt, 1 << 32} {
		refused(t, s, all, 0, 100, limit, api.ErrLimit, 0)
		refused(t, s, all, 5, 5, limit, api.ErrLimit, 0)
		refused(t, loam.New(), all, 0, 100, limit, api.ErrLimit, 0)
	}
}

func TestQueryLength(t *testing.T) {
	s := example(t)
	whole := `{app="db"}|="-4"`
	blanks := strings.Repeat(" ", api.MaxQuery-len(whole))
	bothWays(t, s, whole+blanks, 0, 100, neg)
	bothWays(t, s, blanks+whole, 0, 100, neg)
	refused(t, s, whole+blanks+" ", 0, 100, 10, api.ErrLong, 0)
	refused(t, s, " "+blanks+whole, 0, 100, 10, api.ErrLong, 0)
	// Both come to MaxQuery bytes.
	matchers := `{zone!="a"` + strings.Repeat(`,a!="b"`, 27) + "}"
	filters := `{a!="b"}` + strings.Repeat(`!="xy"`, 31) + `!="12"`
	bothWays(t, s, matchers, 0, 100, neg, put)
	bothWays(t, s, filters, 0, 100, neg, get)
	refused(t, s, matchers+" ", 0, 100, 10, api.ErrLong, 0)
	refused(t, s, filters+"?", 0, 100, 10, api.ErrLong, 0)
	refused(t, s, strings.Repeat("a", api.MaxQuery), 0, 100, 10, api.ErrQuery, 0)
	refused(t, s, strings.Repeat(" ", api.MaxQuery), 0, 100, 10, api.ErrQuery, api.MaxQuery)
	refused(t, s, strings.Repeat(" ", api.MaxQuery-1)+"?", 0, 100, 10, api.ErrQuery, api.MaxQuery-1)
	refused(t, s, strings.Repeat("?", api.MaxQuery+1), 0, 100, 10, api.ErrLong, 0)
	refused(t, s, strings.Repeat(`"`, 5000000), 0, 100, 10, api.ErrLong, 0)
	// 101 runes: the limit is one of bytes.
	refused(t, s, all+`|="`+strings.Repeat("é", 100)+`"`, 0, 100, 10, api.ErrLong, 0)
}

func TestWrongQueries(t *testing.T) {
	s := example(t)
	for text, place := range map[string]int{
		"": 0, "  ": 2, "{": 1, "{}": 1, "x": 0, "?": 0, "{app": 4, `{app="web"} x`: 12, `{app="web}`: 5,
		`{app="web"}|=`: 13, `{app="web"} |`: 12, `{app="web"} !`: 12, `{app="Web"}`: 5, `{app=""}`: 5, `{abcdefg="x"}`: 1,
		`{app="web"}[5]`: 11, "{app=\"web\"}\n": 11, `count({app="web"}[1000001])`: 18, `count({app="web"}[5]) by 7`: 25,
	} {
		refused(t, s, text, 0, 100, 10, api.ErrQuery, place)
		measureRefused(t, s, text, 5, api.ErrQuery, place)
	}
}

func TestMeasuresAreNoRows(t *testing.T) {
	s := example(t)
	for _, text := range []string{`count({app="web"}[10])`, `rate({app="web"}[10]) by zone`, `bytes({app="web"}|="1"[1])`, ` mean ( {a!="b"} [ 000001000000 ] ) by by `} {
		refused(t, s, text, 0, 100, 10, api.ErrKind, 0)
	}
	// A measure's word may stand for a name.
	refused(t, s, `count`, 0, 100, 10, api.ErrQuery, 5)
	bothWays(t, s, `{count!="by",by!="mean"}`, 0, 4, neg)
}

// Whichever errors apply together, the first of them is told.
func TestFirstErrorOfRows(t *testing.T) {
	s := example(t)
	texts := map[string]api.Errno{all: api.OK, strings.Repeat("?", 201): api.ErrLong, `{a="b"?`: api.ErrQuery, `count({a="b"}[1])`: api.ErrKind}
	ranges := map[[2]int]api.Errno{{0, 3}: api.OK, {-1, 3}: api.ErrRange, {3, 2}: api.ErrRange, {0, api.MaxTime + 2}: api.ErrRange}
	limits := map[int]api.Errno{0: api.OK, -1: api.ErrLimit, api.MaxRows + 1: api.ErrLimit}
	for text, textError := range texts {
		for r, rangeError := range ranges {
			for limit, limitError := range limits {
				want := firstError(textError, rangeError, limitError)
				place := 0
				if want == api.ErrQuery {
					place = 6
				}
				refused(t, s, text, r[0], r[1], limit, want, place)
			}
		}
	}
}

func TestRowsOfLinesThatAreGone(t *testing.T) {
	s := example(t)
	drop(t, s, 5, 1, api.OK)
	bothWays(t, s, all, 0, 100, get, put, num)
	bothWays(t, s, `{app="db"}`, 0, 100)
	drop(t, s, 6, 2, api.OK)
	bothWays(t, s, all, 0, 100, num)
	push(t, s, "app=db", 3, "again", api.OK)
	bothWays(t, s, all, 0, 100, api.Row{Labels: "app=db", Time: 3, Line: "again"}, num)
	drop(t, s, 100, 2, api.OK)
	bothWays(t, s, all, 0, 100)
}

func TestRefusedLinesAreNoRows(t *testing.T) {
	s := example(t)
	push(t, s, "app=db", 2, "x", api.ErrOrder)
	push(t, s, "app=db", 3, tooLong, api.ErrLine)
	push(t, s, "app=db", api.MaxTime+1, "x", api.ErrTime)
	push(t, s, "zone=a,app=web", 9, "x", api.ErrLabels)
	bothWays(t, s, all, 0, api.MaxTime+1, neg, get, put, num)
}

func TestRowsOfAnyBytes(t *testing.T) {
	s := loam.New()
	var list []api.Row
	for b := range 256 {
		row := api.Row{Labels: "a=b", Time: 1 + b/40, Line: "<" + string([]byte{byte(b)}) + ">"}
		push(t, s, row.Labels, row.Time, row.Line, api.OK)
		list = append(list, row)
	}
	for b, row := range list {
		if b != '"' && b != '<' && b != '>' {
			bothWays(t, s, all+` |= "`+row.Line[1:2]+`"`, 0, 100, row)
			bothWays(t, s, all+` |= "`+row.Line+`"`, 0, 100, row)
		}
	}
	for time := 1; time <= 6; time++ {
		bothWays(t, s, all, time, time+1, list[time*40-40:time*40]...)
	}
}

func TestListsOfRowsAreNewMemory(t *testing.T) {
	s, want := many(t)
	for _, backward := range []bool{false, true} {
		first, _, _ := s.Rows(all, 0, 2, 36, backward)
		second, _, _ := s.Rows(all, 0, 2, 36, backward)
		first = first[:cap(first)]
		for i := range first {
			first[i] = api.Row{Labels: "mine", Time: -1, Line: "mine"}
		}
		for _, row := range second {
			if row.Time < 0 {
				t.Error("P2: two lists share memory")
			}
		}
		bothWays(t, s, all, 0, 2, want[:36]...)
	}
	streams(t, s, six...)
}

// What came out stays as it is, whatever is done with the store.
func TestRowsOutliveTheirLines(t *testing.T) {
	s := example(t)
	list, _, _ := s.Rows(all, 0, 100, 10, false)
	drop(t, s, 100, 4, api.OK)
	for range 10 {
		push(t, s, "app=web,zone=a", 200, "other", api.OK)
	}
	if !slices.Equal(list, []api.Row{neg, get, put, num}) {
		t.Errorf("P2: rows that had come out are now %v", list)
	}
}

// A call of Rows changes nothing, whether it is refused or not.
func TestRowsChangeNothing(t *testing.T) {
	s := example(t)
	for _, text := range []string{all, `{app="db"}`, "{", "", `count({a="b"}[1])`, strings.Repeat("x", 201)} {
		for _, limit := range []int{-1, 0, 1, 50} {
			s.Rows(text, 0, 100, limit, true)
			s.Measure(text, limit)
			bothWays(t, s, all, 0, 100, neg, get, put, num)
		}
	}
	streams(t, s, "app=db", "app=web,zone=a", "app=web,zone=b")
	push(t, s, "app=db", 2, "x", api.ErrOrder)
	drop(t, s, 100, 4, api.OK)
}

// A filter and its opposite part the rows.
func TestFiltersPartTheRows(t *testing.T) {
	s, list := many(t)
	for _, part := range []string{"", "9", "8", "98", "x", " "} {
		with, _, _ := s.Rows(all+`|="`+part+`"`, 0, 2, 50, false)
		without, _, _ := s.Rows(all+`!="`+part+`"`, 0, 2, 50, false)
		if len(with)+len(without) != 36 {
			t.Errorf("P7: of 36 rows %d have %q, and %d have not", len(with), part, len(without))
		}
		for _, row := range list[:36] {
			if slices.Contains(with, row) == slices.Contains(without, row) {
				t.Errorf("P7: %v both has %q and has not, or neither", row, part)
			}
		}
	}
}

func TestStoresHaveTheirOwnRows(t *testing.T) {
	a, b := example(t), loam.New()
	push(t, b, "app=db", 3, "other", api.OK)
	bothWays(t, a, all, 0, 100, neg, get, put, num)
	bothWays(t, b, all, 0, 100, api.Row{Labels: "app=db", Time: 3, Line: "other"})
}
