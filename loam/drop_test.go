package loam_test

import (
	"testing"

	"loam/api"
	"loam/loam"
)

func TestDropTakesLinesBelowATime(t *testing.T) {
	s := loam.New()
	for _, time := range []int{0, 0, 3, 5, 5, 8, api.MaxTime} {
		push(t, s, "a=b", time, "x", api.OK)
	}
	push(t, s, "c=d", 4, "x", api.OK)
	push(t, s, "c=d", 5, "x", api.OK)
	drop(t, s, 0, 0, api.OK)
	drop(t, s, 1, 2, api.OK)
	drop(t, s, 1, 0, api.OK)
	drop(t, s, 3, 0, api.OK)
	drop(t, s, 5, 2, api.OK)
	drop(t, s, 6, 3, api.OK)
	drop(t, s, 2, 0, api.OK)
	// The line at MaxTime is below no time.
	drop(t, s, api.MaxTime, 1, api.OK)
	drop(t, s, api.MaxTime, 0, api.OK)
	streams(t, s, "a=b", "c=d")
}

func TestDropChecksTheTime(t *testing.T) {
	s := filled(t, six, 5)
	for _, before := range []int{-1, api.MaxTime + 1, leastInt, mostInt, 1 << 32} {
		drop(t, s, before, 0, api.ErrTime)
		streams(t, s, six...)
	}
	drop(t, s, 6, 6, api.OK)
}

func TestStreamsStayWithoutLines(t *testing.T) {
	s := filled(t, six, 5)
	drop(t, s, api.MaxTime, 6, api.OK)
	streams(t, s, six...)
	drop(t, s, api.MaxTime, 0, api.OK)
	push(t, s, "new=1", 9, "x", api.ErrStreams)
	push(t, s, six[0], 9, "x", api.OK)
	streams(t, s, six...)
}

func TestDropMakesRoom(t *testing.T) {
	s := full(t, "a=b", 5)
	for range 3 {
		push(t, s, "a=b", 5, "x", api.ErrFull)
		drop(t, s, 5, 0, api.OK)
		push(t, s, "a=b", 5, "x", api.ErrFull)
		drop(t, s, 6, api.MaxLines, api.OK)
		for range api.MaxLines {
			push(t, s, "a=b", 5, "x", api.OK)
		}
	}
}

// What a refused push would have kept is not there to be dropped.
func TestRefusedLinesAreNotKept(t *testing.T) {
	s := filled(t, []string{"a=b"}, 5)
	push(t, s, "a=b", 4, "x", api.ErrOrder)
	push(t, s, "a=b", 6, tooLong, api.ErrLine)
	push(t, s, "a=b", -1, "x", api.ErrTime)
	push(t, s, "a=", 6, "x", api.ErrLabels)
	drop(t, s, api.MaxTime, 1, api.OK)
}
