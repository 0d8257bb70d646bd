package loam_test

import (
	"cmp"
	"maps"
	"math"
	"math/big"
	"slices"
	"strconv"
	"strings"
	"testing"

	"loam/api"
	"loam/loam"
)

// model is a store told once more in the plainest way: every line that was
// ever kept, in one list, and whether it is gone.
type model struct{ lines []modelLine }

type modelLine struct {
	labels string
	time   int
	text   string
	gone   bool
}

func (m *model) push(labels string, good bool, time int, line string) api.Errno {
	kept := 0
	later := false
	for _, l := range m.lines {
		if !l.gone {
			kept++
		}
		later = later || l.labels == labels && l.time > time
	}
	there := m.streams()
	switch {
	case !good:
		return api.ErrLabels
	case time < 0 || time > api.MaxTime:
		return api.ErrTime
	case len(line) > api.MaxLine:
		return api.ErrLine
	case later:
		return api.ErrOrder
	case !slices.Contains(there, labels) && len(there) == api.MaxStreams:
		return api.ErrStreams
	case kept == api.MaxLines:
		return api.ErrFull
	}
	m.lines = append(m.lines, modelLine{labels: labels, time: time, text: line})
	return api.OK
}

func (m *model) streams() []string {
	var list []string
	for _, l := range m.lines {
		list = append(list, l.labels)
	}
	slices.SortFunc(list, cmp.Compare[string])
	return slices.Compact(list)
}

func (m *model) drop(before int) (int, api.Errno) {
	if before < 0 || before > api.MaxTime {
		return 0, api.ErrTime
	}
	n := 0
	for i := range m.lines {
		if l := &m.lines[i]; !l.gone && l.time < before {
			l.gone = true
			n++
		}
	}
	return n, api.OK
}

// ask: a part of a query of rows: whether it is ruled out, its name (of a
// filter none), and its string.
type ask struct {
	not        bool
	name, text string
}

func (m *model) rows(asks []ask, from, to, limit int, backward bool) ([]api.Row, api.Errno) {
	switch {
	case from < 0 || from > to || to > 1000001:
		return nil, api.ErrRange
	case limit < 0 || limit > 50:
		return nil, api.ErrLimit
	}
	var list []api.Row
	for _, l := range m.lines {
		if !l.gone && from <= l.time && l.time < to && l.askedFor(asks) {
			list = append(list, api.Row{Labels: l.labels, Time: l.time, Line: l.text})
		}
	}
	slices.SortStableFunc(list, func(a, b api.Row) int {
		return cmp.Or(cmp.Compare(a.Time, b.Time), cmp.Compare(a.Labels, b.Labels))
	})
	if backward {
		slices.Reverse(list)
	}
	return list[:min(limit, len(list))], api.OK
}

// measure tells the samples, worked out by floats of 24 bits that are not the machine's.
func (m *model) measure(kind string, asks []ask, span int, by string, at int) ([]api.Sample, api.Errno) {
	if at < 0 || at > 1000000 {
		return nil, api.ErrRange
	}
	groups := map[string][]string{}
	for _, l := range m.lines {
		_, err := strconv.Atoi(l.text)
		isNumber := err == nil && len(strings.TrimPrefix(l.text, "-")) <= 6 && l.text[0] != '+'
		if !l.gone && l.time > at-span && l.time <= at && l.askedFor(asks) && (kind != "mean" || isNumber) {
			groups[l.valueOf(by)] = append(groups[l.valueOf(by)], l.text)
		}
	}
	var list []api.Sample
	for _, key := range slices.Sorted(maps.Keys(groups)) {
		x, _ := come(kind, groups[key], span).Float32()
		list = append(list, api.Sample{Key: key, Bits: int(math.Float32bits(x))})
	}
	return list, api.OK
}

// come tells what lines come to.
func come(kind string, lines []string, span int) *big.Float {
	float := func(n int) *big.Float {
		return new(big.Float).SetPrec(24).SetMode(big.ToNearestEven).SetInt64(int64(n))
	}
	n, bytes := 0, 0
	for _, line := range lines {
		number, _ := strconv.Atoi(line)
		n += number
		bytes += len(line)
	}
	switch kind {
	case "rate":
		return float(0).Quo(float(len(lines)), float(span))
	case "bytes":
		return float(bytes)
	case "mean":
		return float(0).Quo(float(n), float(len(lines)))
	}
	return float(len(lines))
}

func (l modelLine) valueOf(name string) string {
	for _, pair := range strings.Split(l.labels, ",") {
		if value, ok := strings.CutPrefix(pair, name+"="); ok {
			return value
		}
	}
	return ""
}

func (l modelLine) askedFor(asks []ask) bool {
	for _, a := range asks {
		has := strings.Contains(l.text, a.text)
		if a.name != "" {
			has = strings.Contains(","+l.labels+",", ","+a.name+"="+a.text+",")
		}
		if has == a.not {
			return false
		}
	}
	return true
}

// write tells the text of a query, with or without blanks.
func write(asks []ask, blank string) string {
	var matchers, filters []string
	for _, a := range asks {
		sign := "="
		if a.name == "" {
			sign = "|="
		}
		if a.not {
			sign = "!="
		}
		text := a.name + blank + sign + blank + `"` + a.text + `"`
		if a.name == "" {
			filters = append(filters, text)
		} else {
			matchers = append(matchers, text)
		}
	}
	return blank + "{" + blank + strings.Join(matchers, blank+","+blank) + blank + "}" + blank + strings.Join(filters, blank) + blank
}

// dice gives the same row of numbers in every run.
type dice struct{ state uint64 }

func (d *dice) below(n int) int {
	d.state = d.state*6364136223846793005 + 1442695040888963407
	return int(d.state>>33) % n
}

func pick[T any](d *dice, list ...T) T { return list[d.below(len(list))] }

// Long rows of calls on two stores by turns, held against the model.
func TestAgainstTheModel(t *testing.T) {
	seen := map[api.Errno]int{}
	for round := range 40 {
		d := &dice{state: uint64(round)}
		stores := [2]*loam.Store{loam.New(), loam.New()}
		models := [2]*model{{}, {}}
		for clock := range 1000 {
			which := d.below(2)
			e := step(t, d, clock/4, stores[which], models[which])
			seen[e]++
		}
	}
	for e := api.OK; e <= api.ErrLimit; e++ {
		if seen[e] == 0 && e != api.ErrLong && e != api.ErrQuery {
			t.Errorf("the calls of this test never came to the answer %d", e)
		}
	}
}

func step(t *testing.T, d *dice, clock int, s *loam.Store, m *model) api.Errno {
	t.Helper()
	if d.below(150) == 0 {
		before := pick(d, 0, clock/2, clock, clock, clock+1, api.MaxTime, -1, api.MaxTime+1)
		n, e := m.drop(before)
		drop(t, s, before, n, e)
		streams(t, s, m.streams()...)
		return e
	}
	if d.below(8) == 0 {
		return stepRows(t, d, clock, s, m)
	}
	if d.below(8) == 0 {
		return stepMeasure(t, d, clock, s, m)
	}
	labels := pick(d, "a=1", "a=1", "a=1,b=2", "a=1,b=2", "b=2", "c=3", "d=4", "aa=1", "aa=2")
	good := d.below(40) != 0
	if !good {
		labels = pick(d, "", "a", "b=2,a=1", labels+",", labels+" ", strings.ToUpper(labels))
	}
	time := pick(d, clock, clock, clock, clock, clock, clock+1, clock-1)
	line := pick(d, "", "x", "y", "xy", "x y 1", "12", "-0", "0000012", strconv.Itoa(999999-d.below(99)), strconv.Itoa(d.below(2000000)-1000000), strings.Repeat("x", api.MaxLine), strings.Repeat("yz", api.MaxLine/2))
	if d.below(40) == 0 {
		line = tooLong
	}
	e := m.push(labels, good, time, line)
	push(t, s, labels, time, line, e)
	return e
}

// drawAsks tells the parts of a query, as the dice fall.
func drawAsks(d *dice) []ask {
	asks := []ask{{pick(d, true, true, false), pick(d, "a", "b", "aa", "c", "e"), pick(d, "1", "2", "3")}}
	for d.below(4) == 0 {
		asks = append(asks, ask{pick(d, true, false), pick(d, "a", "b", "aa", ""), pick(d, "1", "2")})
	}
	for d.below(4) == 0 {
		asks = append(asks, ask{pick(d, true, false), "", pick(d, "", "x", "y", "y ", "12", "xy", "zy")})
	}
	return asks
}

func stepMeasure(t *testing.T, d *dice, clock int, s *loam.Store, m *model) api.Errno {
	t.Helper()
	asks := drawAsks(d)
	kind := pick(d, "count", "rate", "bytes", "mean", "mean", "mean")
	span := pick(d, 1, 2, 1+d.below(9), 1+d.below(200), clock+1, api.MaxTime)
	by := pick(d, "", "a", "b", "aa", "e")
	blank := pick(d, "", "", " ")
	query := kind + blank + "(" + write(asks, blank) + "[" + blank + pick(d, "", "0", "00") + strconv.Itoa(span) + blank + "]" + blank + ")" + blank
	if by != "" {
		query += "by " + by + blank
	}
	if len(query) > api.MaxQuery {
		return api.OK
	}
	at := pick(d, 0, clock/2, clock-1, clock, clock, clock+1, api.MaxTime, d.below(clock+2))
	if d.below(20) == 0 {
		refused(t, s, query, 0, 1, 1, api.ErrKind, 0)
		measureRefused(t, s, write(asks, blank), at, api.ErrKind, 0)
		return api.ErrKind
	}
	list, e := m.measure(kind, asks, span, by, at)
	got, gotError, place := s.Measure(query, at)
	if gotError != e || place != 0 || !slices.Equal(got, list) {
		t.Errorf("P6: Measure(%q, %d) = %v, %d, %d, want %v, %d", query, at, got, gotError, place, list, e)
	}
	return e
}

func stepRows(t *testing.T, d *dice, clock int, s *loam.Store, m *model) api.Errno {
	t.Helper()
	asks := drawAsks(d)
	query := write(asks, pick(d, "", "", " ", "  "))
	if len(query) > api.MaxQuery {
		return api.OK
	}
	from := pick(d, 0, 0, clock/2, clock-3, clock-1)
	to := pick(d, clock, clock+1, clock+1, clock+2, from, from+1, from+5, api.MaxTime+1)
	limit := pick(d, 0, 1, 2, 7, 49, api.MaxRows, api.MaxRows, api.MaxRows, api.MaxRows)
	if d.below(20) == 0 {
		limit = pick(d, -1, api.MaxRows+1)
	}
	backward := pick(d, true, false)
	list, e := m.rows(asks, from, to, limit, backward)
	if e != api.OK {
		refused(t, s, query, from, to, limit, e, 0)
	} else {
		rows(t, s, query, from, to, limit, backward, list...)
	}
	return e
}
