// Package stream keeps the lines of one stream.
package stream

import (
	"slices"
	"sort"
	"strings"
)

// Line: a text and its time.
type Line struct {
	Time int
	Text string
}

// Stream: labels, and the lines that are kept, in the order in which they were pushed.
type Stream struct {
	labels string
	// latest outlives the lines: one that is gone still bars earlier ones.
	latest int
	lines  []Line
}

// New makes a stream without lines. The labels are copied, since they may be
// a small part of a great text, which would stay in memory with them.
func New(labels string) *Stream {
	return &Stream{labels: strings.Clone(labels)}
}

// Labels tells the stream's labels.
func (s *Stream) Labels() string { return s.labels }

// Len tells how many lines are kept.
func (s *Stream) Len() int { return len(s.lines) }

// Takes: whether no line, kept or gone, is later than this time.
func (s *Stream) Takes(time int) bool { return s.latest <= time }

// Add keeps a line; its time is one that the stream takes. The text is copied
// for the same reason as the labels.
func (s *Stream) Add(time int, text string) {
	s.latest = time
	s.lines = append(s.lines, Line{Time: time, Text: strings.Clone(text)})
}

// Find tells the lines of a time that is from or above and below to, and
// whose text is good, in the order in which they were pushed.
func (s *Stream) Find(from int, to int, good func(string) bool) []Line {
	var list []Line
	for _, line := range s.lines {
		if from <= line.Time && line.Time < to && good(line.Text) {
			list = append(list, line)
		}
	}
	return list
}

// Drop takes away the lines below a time, and tells how many they were.
// Times never fall within a stream, so that these lines are its first ones.
func (s *Stream) Drop(before int) int {
	gone := sort.Search(len(s.lines), func(i int) bool { return s.lines[i].Time >= before })
	s.lines = slices.Delete(s.lines, 0, gone)
	return gone
}
