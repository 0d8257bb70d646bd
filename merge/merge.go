// Package merge tells the lines of several streams as rows, in the order of rows.
package merge

import (
	"container/heap"

	"loam/api"
	"loam/stream"
)

// Source: lines of one stream, in the order in which they were pushed. No two
// sources have the same labels.
type Source struct {
	Labels string
	Lines  []stream.Line
}

// Rows tells the first rows of all sources, at most limit. Backward, these
// are the last ones, from the last on.
func Rows(sources []Source, limit int, backward bool) []api.Row {
	q := &queue{backward: backward}
	for _, one := range sources {
		q.add(one)
	}
	var rows []api.Row
	for len(rows) < limit && q.Len() > 0 {
		rows = append(rows, q.take())
	}
	return rows
}

// queue is a heap of sources, by the next row of each.
type queue struct {
	sources  []Source
	backward bool
}

func (q *queue) Len() int { return len(q.sources) }

func (q *queue) Less(i, j int) bool {
	a, b := q.next(q.sources[i]), q.next(q.sources[j])
	// From behind all is turned, the order of rows of one time too.
	if q.backward {
		a, b = b, a
	}
	if a.Time != b.Time {
		return a.Time < b.Time
	}
	return a.Labels < b.Labels
}

func (q *queue) Swap(i, j int) {
	q.sources[i], q.sources[j] = q.sources[j], q.sources[i]
}

func (q *queue) Push(source any) {
	q.sources = append(q.sources, source.(Source))
}

func (q *queue) Pop() any {
	last := len(q.sources) - 1
	source := q.sources[last]
	q.sources = q.sources[:last]
	return source
}

// add puts a source in its place. One that has no next row has none.
func (q *queue) add(source Source) {
	if len(source.Lines) > 0 {
		heap.Push(q, source)
	}
}

// take takes the first of all next rows away.
func (q *queue) take() api.Row {
	source := heap.Pop(q).(Source)
	row := q.next(source)
	q.add(q.behind(source))
	return row
}

// next tells which row of a source comes next.
func (q *queue) next(source Source) api.Row {
	line := source.Lines[0]
	if q.backward {
		line = source.Lines[len(source.Lines)-1]
	}
	return api.Row{Labels: source.Labels, Time: line.Time, Line: line.Text}
}

// behind tells what is left of a source behind its next row.
func (q *queue) behind(source Source) Source {
	if q.backward {
		source.Lines = source.Lines[:len(source.Lines)-1]
	} else {
		source.Lines = source.Lines[1:]
	}
	return source
}
