package loam_test

import (
	"math"
	"slices"
	"strconv"
	"testing"

	"loam/api"
	"loam/loam"
)

// drawn: a store with lines of several streams, as the dice fall.
func drawn(t *testing.T, d *dice) *loam.Store {
	t.Helper()
	s := loam.New()
	for i := range 40 + d.below(200) {
		labels := pick(d, "a=1", "a=1,b=2", "a=2,b=2", "aa=1,b=x", "b=1", "c=3")
		push(t, s, labels, i/9, pick(d, "", "x", "y", "xy", "12", "-7", strconv.Itoa(d.below(2000))), api.OK)
	}
	return s
}

// sum tells what the samples of a measure come to.
func sum(t *testing.T, s *loam.Store, query string, at int) int {
	t.Helper()
	list, e, place := s.Measure(query, at)
	if e != api.OK || place != 0 {
		t.Fatalf("P6: Measure(%q, %d) = %d, %d", query, at, e, place)
	}
	n := 0
	for _, sample := range list {
		n += int(math.Float32frombits(uint32(sample.Bits)))
	}
	return n
}

func TestFiltersPartTheCounts(t *testing.T) {
	for round := range 50 {
		d := &dice{state: uint64(round)}
		s := drawn(t, d)
		rows := pick(d, all, `{b="2"}`, `{a!="1"}`, all+`|="1"`, all+`!="x"`)
		text := pick(d, "", "x", "y", "1", "12", "-", "xyz")
		behind := `[` + strconv.Itoa(1+d.below(30)) + `])` + pick(d, "", " by a", " by b", " by none")
		at := d.below(30)
		for _, kind := range []string{"count", "bytes"} {
			with := sum(t, s, kind+`(`+rows+`|="`+text+`"`+behind, at)
			without := sum(t, s, kind+`(`+rows+`!="`+text+`"`+behind, at)
			if both := sum(t, s, kind+`(`+rows+behind, at); with+without != both {
				t.Errorf("P7: %s of %s%s at %d: %d with %q, %d without it, but %d together", kind, rows, behind, at, with, text, without, both)
			}
		}
	}
}

func TestGroupsComeToAll(t *testing.T) {
	for round := range 50 {
		d := &dice{state: uint64(round)}
		s := drawn(t, d)
		measure := pick(d, "count(", "bytes(") + pick(d, all, `{b="2"}`, `{a!="1"}|="1"`) + `[` + strconv.Itoa(1+d.below(30)) + `])`
		at := d.below(30)
		whole := sum(t, s, measure, at)
		for _, name := range []string{"a", "aa", "b", "c", "none"} {
			if parts := sum(t, s, measure+" by "+name, at); parts != whole {
				t.Errorf("P7: %s at %d is %d, but its groups by %s come to %d", measure, at, whole, name, parts)
			}
		}
	}
}

// As many lines are counted as there are rows.
func TestCountsAreThoseOfRows(t *testing.T) {
	for round := range 50 {
		d := &dice{state: uint64(round)}
		s := drawn(t, d)
		query := pick(d, all, `{b="2"}`, `{a!="1"}`) + pick(d, "", `|="1"`, `!="x"`)
		at := d.below(30)
		span := 1 + d.below(min(at+1, 5))
		list, _, _ := s.Rows(query, at-span+1, at+1, api.MaxRows, false)
		if n := sum(t, s, `count(`+query+`[`+strconv.Itoa(span)+`])`, at); n != len(list) {
			t.Errorf("P7: %s has %d rows in %d to %d, but the count is %d", query, len(list), at-span+1, at, n)
		}
	}
}

func TestRowsFromBehindAreTurned(t *testing.T) {
	for round := range 50 {
		d := &dice{state: uint64(round)}
		s := drawn(t, d)
		query := pick(d, all, `{b="2"}`, `{a!="1"}`) + pick(d, "", `|="1"`, `!="x"`)
		from := d.below(20)
		to := from + d.below(6)
		whole, _, _ := s.Rows(query, from, to, api.MaxRows, false)
		if len(whole) == api.MaxRows {
			t.Fatalf("the rows of this test must not come to the limit")
		}
		for limit := range len(whole) + 1 {
			rows(t, s, query, from, to, limit, false, whole[:limit]...)
		}
		slices.Reverse(whole)
		for limit := range len(whole) + 1 {
			rows(t, s, query, from, to, limit, true, whole[:limit]...)
		}
	}
}
