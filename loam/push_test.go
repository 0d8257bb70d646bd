package loam_test

import (
	"slices"
	"strings"
	"testing"

	"loam/api"
	"loam/loam"
)

func TestNewStoreIsEmpty(t *testing.T) {
	s := loam.New()
	if s == nil {
		t.Fatal("P3: New gave nothing")
	}
	streams(t, s)
	drop(t, s, api.MaxTime, 0, api.OK)
}

func TestFirstExample(t *testing.T) {
	s := example(t)
	push(t, s, "app=db", 2, "x", api.ErrOrder)
	push(t, s, "zone=a,app=web", 9, "x", api.ErrLabels)
	streams(t, s, "app=db", "app=web,zone=a", "app=web,zone=b")
	drop(t, s, api.MaxTime, 4, api.OK)
}

func TestLabelsAreChecked(t *testing.T) {
	s := loam.New()
	for _, l := range []string{
		"", "a", "a=", "=a", "a=b,", ",a=b", "a=b,,c=d", "a=b, c=d", "a=b=c", "A=b", "a=B", "a1=b", "a=é",
		"abcdefg=a", "a=abcdefg", "b=1,a=1", "aa=1,a=1", "a=1,a=2", "a=1,b=2,c=3,d=4,e=5", strings.Repeat("a=b,", 1000000),
	} {
		push(t, s, l, 0, "x", api.ErrLabels)
	}
	streams(t, s)
	for _, l := range []string{"a=b", "abcdef=abc123", "a=1,b=2,c=3,d=4", "a=1,aa=1", "zzzzzz=zzzzzz", "z=0"} {
		push(t, s, l, 0, "x", api.OK)
	}
}

func TestTimeIsChecked(t *testing.T) {
	s := loam.New()
	for _, time := range []int{-1, api.MaxTime + 1, leastInt, mostInt, -api.MaxTime, 1 << 32} {
		push(t, s, "a=b", time, "x", api.ErrTime)
	}
	streams(t, s)
	push(t, s, "a=b", 0, "x", api.OK)
	push(t, s, "a=b", api.MaxTime, "x", api.OK)
	drop(t, s, api.MaxTime, 1, api.OK)
}

func TestLineIsChecked(t *testing.T) {
	s := loam.New()
	push(t, s, "a=b", 0, tooLong, api.ErrLine)
	push(t, s, "a=b", 0, strings.Repeat("x", 5000000), api.ErrLine)
	// 21 runes, but 42 bytes: the limit is one of bytes.
	push(t, s, "a=b", 0, strings.Repeat("é", 21), api.ErrLine)
	streams(t, s)
	for _, line := range []string{"", "\x00", "\n", "\"", strings.Repeat("x", api.MaxLine), strings.Repeat("\xff", api.MaxLine), strings.Repeat("é", 20)} {
		push(t, s, "a=b", 0, line, api.OK)
	}
	drop(t, s, 1, 7, api.OK)
}

func TestEveryByteMayStandInALine(t *testing.T) {
	s := loam.New()
	for b := range 256 {
		push(t, s, "a=b", 1, string([]byte{byte(b)}), api.OK)
	}
	drop(t, s, 2, 256, api.OK)
}

func TestTimesOfAStreamMayNotFall(t *testing.T) {
	s := loam.New()
	push(t, s, "a=b", 5, "x", api.OK)
	push(t, s, "a=b", 4, "x", api.ErrOrder)
	push(t, s, "a=b", 0, "x", api.ErrOrder)
	push(t, s, "a=b", 5, "x", api.OK)
	push(t, s, "a=b", 6, "x", api.OK)
	push(t, s, "a=b", 5, "x", api.ErrOrder)
	push(t, s, "a=c", 0, "x", api.OK)
	push(t, s, "a=b", api.MaxTime, "x", api.OK)
	push(t, s, "a=b", api.MaxTime-1, "x", api.ErrOrder)
	push(t, s, "a=b", api.MaxTime, "x", api.OK)
	drop(t, s, api.MaxTime, 4, api.OK)
}

func TestLinesThatAreGoneCountForTheOrder(t *testing.T) {
	s := filled(t, []string{"a=b", "c=d"}, 7)
	drop(t, s, api.MaxTime, 2, api.OK)
	push(t, s, "a=b", 6, "x", api.ErrOrder)
	push(t, s, "a=b", 7, "x", api.OK)
	push(t, s, "a=b", 9, "x", api.OK)
	drop(t, s, 8, 1, api.OK)
	push(t, s, "a=b", 8, "x", api.ErrOrder)
	push(t, s, "c=d", 6, "x", api.ErrOrder)
	push(t, s, "c=d", 7, "x", api.OK)
}

// A drop takes lines away; it does not bar lines of times below it.
func TestDroppedTimesMayBePushedAgain(t *testing.T) {
	s := filled(t, []string{"a=b"}, 3)
	drop(t, s, 100, 1, api.OK)
	push(t, s, "a=b", 3, "x", api.OK)
	push(t, s, "new=1", 0, "x", api.OK)
	drop(t, s, 100, 2, api.OK)
}

// A line that was refused is no line of its stream.
func TestRefusedLinesDoNotCountForTheOrder(t *testing.T) {
	s := loam.New()
	push(t, s, "a=b", 5, "x", api.OK)
	push(t, s, "a=b", 9, tooLong, api.ErrLine)
	push(t, s, "a=b", api.MaxTime+1, "x", api.ErrTime)
	push(t, s, "a=b", 5, "x", api.OK)
	s = full(t, "a=b", 5)
	push(t, s, "a=b", 9, "x", api.ErrFull)
	drop(t, s, 6, api.MaxLines, api.OK)
	push(t, s, "a=b", 5, "x", api.OK)
}

func TestStreamsAreLimited(t *testing.T) {
	s := filled(t, six, 1)
	push(t, s, "d=1", 1, "x", api.ErrStreams)
	push(t, s, "a=0", 0, "x", api.ErrStreams)
	streams(t, s, six...)
	for _, l := range six {
		push(t, s, l, 1, "x", api.OK)
	}
	drop(t, s, api.MaxTime, 12, api.OK)
	push(t, s, "d=1", 2, "x", api.ErrStreams)
	streams(t, s, six...)
}

func TestLinesAreLimited(t *testing.T) {
	s := loam.New()
	for i := range api.MaxLines {
		push(t, s, six[i%5], i/5, "x", api.OK)
	}
	for _, l := range six {
		push(t, s, l, 100, "x", api.ErrFull)
	}
	streams(t, s, six[:5]...)
	drop(t, s, 1, 5, api.OK)
	for range 5 {
		push(t, s, six[5], 100, "x", api.OK)
	}
	push(t, s, six[0], 100, "x", api.ErrFull)
	streams(t, s, six...)
	drop(t, s, api.MaxTime, api.MaxLines, api.OK)
}

// Whichever errors apply together, the first of ErrLabels, ErrTime, ErrLine is told.
func TestFirstErrorOfTheArguments(t *testing.T) {
	labels := map[string]api.Errno{"a=b": api.OK, "a": api.ErrLabels}
	times := map[int]api.Errno{5: api.OK, -1: api.ErrTime, api.MaxTime + 1: api.ErrTime}
	lines := map[string]api.Errno{"x": api.OK, tooLong: api.ErrLine}
	for l, labelsError := range labels {
		for time, timeError := range times {
			for line, lineError := range lines {
				want := firstError(labelsError, timeError, lineError)
				s := loam.New()
				push(t, s, l, time, line, want)
				if want != api.OK {
					streams(t, s)
				}
			}
		}
	}
}

func firstError(errors ...api.Errno) api.Errno {
	for _, e := range errors {
		if e != api.OK {
			return e
		}
	}
	return api.OK
}

// The errors of a store that has no room stand behind those of the arguments and the order.
func TestFirstErrorOfAFullStore(t *testing.T) {
	s := loam.New()
	for i := range api.MaxLines {
		push(t, s, six[i%6], 5, "x", api.OK)
	}
	push(t, s, "a", -1, tooLong, api.ErrLabels)
	push(t, s, "a=1", -1, tooLong, api.ErrTime)
	push(t, s, "new=1", -1, tooLong, api.ErrTime)
	push(t, s, "a=1", 4, tooLong, api.ErrLine)
	push(t, s, "new=1", 4, tooLong, api.ErrLine)
	push(t, s, "a=1", 4, "x", api.ErrOrder)
	push(t, s, "new=1", 4, "x", api.ErrStreams)
	push(t, s, "a=1", 5, "x", api.ErrFull)
	streams(t, s, six...)
	drop(t, s, 6, api.MaxLines, api.OK)
}

func TestRefusedPushLeavesNoStream(t *testing.T) {
	s := full(t, "m=1", 5)
	for _, l := range []string{"a=1", "z=1", "m=0", "m=1,n=1"} {
		push(t, s, l, 5, "x", api.ErrFull)
		push(t, s, l, -1, "x", api.ErrTime)
		push(t, s, l, 5, tooLong, api.ErrLine)
		streams(t, s, "m=1")
	}
	drop(t, s, 6, api.MaxLines, api.OK)
	for _, l := range []string{"a=1", "z=1", "m=0", "m=1,n=1", "b=1"} {
		push(t, s, l, 0, "x", api.OK)
	}
	streams(t, s, "a=1", "b=1", "m=0", "m=1", "m=1,n=1", "z=1")
}

func TestStreamsAreInOrder(t *testing.T) {
	want := []string{"a=1", "a=1,b=1", "a=10", "a=a", "aa=1", "b=1"}
	for turn := range want {
		labels := slices.Concat(want[turn:], want[:turn])
		streams(t, filled(t, labels, 0), want...)
		slices.Reverse(labels)
		streams(t, filled(t, labels, 0), want...)
	}
}

// Labels are one stream only if they are the same text.
func TestStreamsAreToldApartByTheirWholeLabels(t *testing.T) {
	s := loam.New()
	push(t, s, "a=1", 9, "x", api.OK)
	push(t, s, "a=1,b=1", 5, "x", api.OK)
	push(t, s, "b=1", 1, "x", api.OK)
	push(t, s, "a=01", 0, "x", api.OK)
	push(t, s, "a=1", 9, "x", api.OK)
	streams(t, s, "a=01", "a=1", "a=1,b=1", "b=1")
}
