// Package loam keeps lines by their labels: see DOC.md.
package loam

import (
	"slices"
	"strings"

	"loam/api"
	"loam/label"
	"loam/measure"
	"loam/merge"
	"loam/queries"
	"loam/stream"
)

// Store keeps streams.
type Store struct {
	streams []*stream.Stream // rising by their labels
}

// New makes an empty store (P3).
func New() *Store { return &Store{} }

// Push keeps a line (P3).
func (s *Store) Push(labels string, time int, line string) api.Errno {
	if e := checkLine(labels, time, line); e != api.OK {
		return e
	}
	place, there := s.find(labels)
	if e := s.checkRoom(place, there, time); e != api.OK {
		return e
	}
	if !there {
		s.streams = slices.Insert(s.streams, place, stream.New(labels))
	}
	s.streams[place].Add(time, line)
	return api.OK
}

// Streams tells the labels of all streams (P3).
func (s *Store) Streams() []string {
	list := make([]string, 0, len(s.streams))
	for _, one := range s.streams {
		list = append(list, one.Labels())
	}
	return list
}

// Drop takes lines away that are old (P4).
func (s *Store) Drop(before int) (int, api.Errno) {
	if !isTime(before) {
		return 0, api.ErrTime
	}
	gone := 0
	for _, one := range s.streams {
		gone += one.Drop(before)
	}
	return gone, api.OK
}

// Rows tells the lines that a query asks for (P5).
func (s *Store) Rows(query string, from int, to int, limit int, backward bool) ([]api.Row, api.Errno, int) {
	asked, e, place := read(query)
	if e != api.OK {
		return nil, e, place
	}
	if e := checkRows(asked, from, to, limit); e != api.OK {
		return nil, e, 0
	}
	return merge.Rows(s.sources(asked, from, to), limit, backward), api.OK, 0
}

// Measure tells what they come to (P6).
func (s *Store) Measure(query string, at int) ([]api.Sample, api.Errno, int) {
	asked, e, place := read(query)
	if e != api.OK {
		return nil, e, place
	}
	if e := checkMeasure(asked, at); e != api.OK {
		return nil, e, 0
	}
	groups := measure.New(asked.Measure, asked.Span)
	for _, source := range s.sources(asked, at-asked.Span+1, at+1) {
		// Without by its name is the empty text, which no label has: one key for all.
		key := label.Value(source.Labels, asked.By)
		for _, line := range source.Lines {
			groups.Add(key, line.Text)
		}
	}
	return groups.Samples(), api.OK, 0
}

// checkLine finds the errors that lie in the arguments of a push alone.
func checkLine(labels string, time int, line string) api.Errno {
	switch {
	case !label.Valid(labels):
		return api.ErrLabels
	case !isTime(time):
		return api.ErrTime
	case len(line) > api.MaxLine:
		return api.ErrLine
	}
	return api.OK
}

// checkRoom finds the errors that lie in what the store holds already.
func (s *Store) checkRoom(place int, there bool, time int) api.Errno {
	switch {
	case there && !s.streams[place].Takes(time):
		return api.ErrOrder
	case !there && len(s.streams) >= api.MaxStreams:
		return api.ErrStreams
	case s.kept() >= api.MaxLines:
		return api.ErrFull
	}
	return api.OK
}

// read reads a query, whether it is of rows or a measure.
func read(text string) (*queries.Query, api.Errno, int) {
	if len(text) > api.MaxQuery {
		return nil, api.ErrLong, 0
	}
	asked, place, ok := queries.Read(text)
	if !ok {
		return nil, api.ErrQuery, place
	}
	return asked, api.OK, 0
}

// checkRows finds the errors of a call of Rows behind those of the query's text.
func checkRows(asked *queries.Query, from int, to int, limit int) api.Errno {
	switch {
	case asked.Measure != "":
		return api.ErrKind
	case from < 0 || to < from || to > api.MaxTime+1:
		return api.ErrRange
	case limit < 0 || limit > api.MaxRows:
		return api.ErrLimit
	}
	return api.OK
}

// checkMeasure finds the errors of a call of Measure behind those of the query's text.
func checkMeasure(asked *queries.Query, at int) api.Errno {
	switch {
	case asked.Measure == "":
		return api.ErrKind
	case !isTime(at):
		return api.ErrRange
	}
	return api.OK
}

// sources tells the lines that are asked for, of a time that is from or above
// and below to, by their streams.
func (s *Store) sources(asked *queries.Query, from int, to int) []merge.Source {
	var list []merge.Source
	for _, one := range s.streams {
		if asked.Matches(one.Labels()) {
			list = append(list, merge.Source{Labels: one.Labels(), Lines: one.Find(from, to, asked.Asks)})
		}
	}
	return list
}

// find tells where the stream with these labels stands, or where it would,
// and whether it is there.
func (s *Store) find(labels string) (int, bool) {
	return slices.BinarySearchFunc(s.streams, labels, func(one *stream.Stream, wanted string) int {
		return strings.Compare(one.Labels(), wanted)
	})
}

// kept tells how many lines all streams keep together.
func (s *Store) kept() int {
	sum := 0
	for _, one := range s.streams {
		sum += one.Len()
	}
	return sum
}

func isTime(n int) bool {
	return 0 <= n && n <= api.MaxTime
}
