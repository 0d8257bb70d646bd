package loam_test

import (
	"cmp"
	"slices"
	"strings"
	"testing"

	"loam/api"
	"loam/loam"
)

// model is a store told once more in the plainest way: every line that was
// ever kept, in one list, and whether it is gone.
type model struct{ lines []modelLine }

type modelLine struct {
	labels string
	time   int
	gone   bool
}

func (m *model) push(labels string, good bool, time int, line string) api.Errno {
	kept := 0
	later := false
	for _, l := range m.lines {
		if !l.gone {
			kept++
		}
		later = later || l.labels == labels && l.time > time
	}
	there := m.streams()
	switch {
	case !good:
		return api.ErrLabels
	case time < 0 || time > api.MaxTime:
		return api.ErrTime
	case len(line) > api.MaxLine:
		return api.ErrLine
	case later:
		return api.ErrOrder
	case !slices.Contains(there, labels) && len(there) == api.MaxStreams:
		return api.ErrStreams
	case kept == api.MaxLines:
		return api.ErrFull
	}
	m.lines = append(m.lines, modelLine{labels: labels, time: time})
	return api.OK
}

func (m *model) streams() []string {
	var list []string
	for _, l := range m.lines {
		list = append(list, l.labels)
	}
	slices.SortFunc(list, cmp.Compare[string])
	return slices.Compact(list)
}

func (m *model) drop(before int) (int, api.Errno) {
	if before < 0 || before > api.MaxTime {
		return 0, api.ErrTime
	}
	n := 0
	for i := range m.lines {
		if l := &m.lines[i]; !l.gone && l.time < before {
			l.gone = true
			n++
		}
	}
	return n, api.OK
}

// dice gives the same row of numbers in every run.
type dice struct{ state uint64 }

func (d *dice) below(n int) int {
	d.state = d.state*6364136223846793005 + 1442695040888963407
	return int(d.state>>33) % n
}

func pick[T any](d *dice, list ...T) T { return list[d.below(len(list))] }

// Long rows of calls on two stores by turns, held against the model.
func TestAgainstTheModel(t *testing.T) {
	seen := map[api.Errno]int{}
	for round := range 40 {
		d := &dice{state: uint64(round)}
		stores := [2]*loam.Store{loam.New(), loam.New()}
		models := [2]*model{{}, {}}
		for clock := range 800 {
			which := d.below(2)
			e := step(t, d, clock/4, stores[which], models[which])
			seen[e]++
		}
	}
	for e := api.OK; e <= api.ErrFull; e++ {
		if seen[e] == 0 {
			t.Errorf("the calls of this test never came to the answer %d", e)
		}
	}
}

func step(t *testing.T, d *dice, clock int, s *loam.Store, m *model) api.Errno {
	t.Helper()
	if d.below(150) == 0 {
		before := pick(d, 0, clock/2, clock, clock, clock+1, api.MaxTime, -1, api.MaxTime+1)
		n, e := m.drop(before)
		drop(t, s, before, n, e)
		streams(t, s, m.streams()...)
		return e
	}
	labels := pick(d, "a=1", "a=1", "a=1,b=2", "a=1,b=2", "b=2", "c=3", "d=4", "aa=1", "aa=2")
	good := d.below(40) != 0
	if !good {
		labels = pick(d, "", "a", "b=2,a=1", labels+",", labels+" ", strings.ToUpper(labels))
	}
	time := pick(d, clock, clock, clock, clock, clock, clock+1, clock-1)
	line := strings.Repeat("x", pick(d, 0, 1, 7, api.MaxLine, api.MaxLine, api.MaxLine-1))
	if d.below(40) == 0 {
		line = tooLong
	}
	e := m.push(labels, good, time, line)
	push(t, s, labels, time, line, e)
	return e
}
