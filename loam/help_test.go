package loam_test

import (
	"math"
	"slices"
	"strings"
	"testing"

	"loam/api"
	"loam/loam"
)

const (
	leastInt = -1 << 63
	mostInt  = 1<<63 - 1
)

var tooLong = strings.Repeat("x", api.MaxLine+1)

// six labels, in order: as many streams as may be.
var six = []string{"a=1", "a=1,b=2", "aa=1", "b=1", "b=2", "c=1"}

func push(t *testing.T, s *loam.Store, labels string, time int, line string, want api.Errno) {
	t.Helper()
	if e := s.Push(labels, time, line); e != want {
		t.Errorf("P3: Push(%.60q, %d, %.60q) = %d, want %d", labels, time, line, e, want)
	}
}

func streams(t *testing.T, s *loam.Store, want ...string) {
	t.Helper()
	if got := s.Streams(); !slices.Equal(got, want) {
		t.Errorf("P3: Streams() = %q, want %q", got, want)
	}
}

func drop(t *testing.T, s *loam.Store, before int, want int, wantError api.Errno) {
	t.Helper()
	if n, e := s.Drop(before); n != want || e != wantError {
		t.Errorf("P4: Drop(%d) = %d, %d, want %d, %d", before, n, e, want, wantError)
	}
}

// filled: a store with streams of these labels, each with one line at this time.
func filled(t *testing.T, labels []string, time int) *loam.Store {
	t.Helper()
	s := loam.New()
	for _, l := range labels {
		push(t, s, l, time, "x", api.OK)
	}
	return s
}

// full: a store that keeps MaxLines lines, all at this time, in one stream.
func full(t *testing.T, labels string, time int) *loam.Store {
	t.Helper()
	s := loam.New()
	for range api.MaxLines {
		push(t, s, labels, time, "x", api.OK)
	}
	return s
}

func rows(t *testing.T, s *loam.Store, query string, from, to, limit int, backward bool, want ...api.Row) {
	t.Helper()
	got, e, place := s.Rows(query, from, to, limit, backward)
	if e != api.OK || place != 0 || !slices.Equal(got, want) {
		t.Errorf("P5: Rows(%q, %d, %d, %d, %v) = %v, %d, %d, want %v", query, from, to, limit, backward, got, e, place, want)
	}
}

// bothWays: all rows of a query from the front, and from behind.
func bothWays(t *testing.T, s *loam.Store, query string, from, to int, want ...api.Row) {
	t.Helper()
	rows(t, s, query, from, to, api.MaxRows, false, want...)
	want = slices.Clone(want)
	slices.Reverse(want)
	rows(t, s, query, from, to, api.MaxRows, true, want...)
}

func refused(t *testing.T, s *loam.Store, query string, from, to, limit int, wantError api.Errno, wantPlace int) {
	t.Helper()
	for _, backward := range []bool{false, true} {
		got, e, place := s.Rows(query, from, to, limit, backward)
		if len(got) != 0 || e != wantError || place != wantPlace {
			t.Errorf("P5: Rows(%.60q, %d, %d, %d, %v) = %v, %d, %d, want %d, %d", query, from, to, limit, backward, got, e, place, wantError, wantPlace)
		}
	}
}

// value: a sample told by the float that it stands for.
type value struct {
	key   string
	float float32
}

func measured(t *testing.T, s *loam.Store, query string, at int, want ...value) {
	t.Helper()
	var samples []api.Sample
	for _, v := range want {
		samples = append(samples, api.Sample{Key: v.key, Bits: int(math.Float32bits(v.float))})
	}
	got, e, place := s.Measure(query, at)
	if e != api.OK || place != 0 || !slices.Equal(got, samples) {
		t.Errorf("P6: Measure(%q, %d) = %v, %d, %d, want %v, of %v", query, at, got, e, place, samples, want)
	}
}

func measureRefused(t *testing.T, s *loam.Store, query string, at int, wantError api.Errno, wantPlace int) {
	t.Helper()
	got, e, place := s.Measure(query, at)
	if len(got) != 0 || e != wantError || place != wantPlace {
		t.Errorf("P6: Measure(%.60q, %d) = %v, %d, %d, want %d, %d", query, at, got, e, place, wantError, wantPlace)
	}
}

// example: the store of the document's first example.
func example(t *testing.T) *loam.Store {
	t.Helper()
	s := loam.New()
	push(t, s, "app=web,zone=a", 5, "get 7", api.OK)
	push(t, s, "app=web,zone=b", 5, "put 12", api.OK)
	push(t, s, "app=web,zone=a", 9, "12", api.OK)
	push(t, s, "app=db", 3, "-4", api.OK)
	return s
}
