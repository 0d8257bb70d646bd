package loam_test

import (
	"slices"
	"strings"
	"testing"

	"loam/api"
	"loam/loam"
)

const (
	leastInt = -1 << 63
	mostInt  = 1<<63 - 1
)

var tooLong = strings.Repeat("x", api.MaxLine+1)

// six labels, in order: as many streams as may be.
var six = []string{"a=1", "a=1,b=2", "aa=1", "b=1", "b=2", "c=1"}

func push(t *testing.T, s *loam.Store, labels string, time int, line string, want api.Errno) {
	t.Helper()
	if e := s.Push(labels, time, line); e != want {
		t.Errorf("P3: Push(%.60q, %d, %.60q) = %d, want %d", labels, time, line, e, want)
	}
}

func streams(t *testing.T, s *loam.Store, want ...string) {
	t.Helper()
	if got := s.Streams(); !slices.Equal(got, want) {
		t.Errorf("P3: Streams() = %q, want %q", got, want)
	}
}

func drop(t *testing.T, s *loam.Store, before int, want int, wantError api.Errno) {
	t.Helper()
	if n, e := s.Drop(before); n != want || e != wantError {
		t.Errorf("P4: Drop(%d) = %d, %d, want %d, %d", before, n, e, want, wantError)
	}
}

// filled: a store with streams of these labels, each with one line at this time.
func filled(t *testing.T, labels []string, time int) *loam.Store {
	t.Helper()
	s := loam.New()
	for _, l := range labels {
		push(t, s, l, time, "x", api.OK)
	}
	return s
}

// full: a store that keeps MaxLines lines, all at this time, in one stream.
func full(t *testing.T, labels string, time int) *loam.Store {
	t.Helper()
	s := loam.New()
	for range api.MaxLines {
		push(t, s, labels, time, "x", api.OK)
	}
	return s
}
