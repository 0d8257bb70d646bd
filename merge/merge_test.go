package merge

import (
	"slices"
	"testing"

	"loam/api"
	"loam/stream"
)

func told(t *testing.T, sources []Source, limit int, backward bool, want ...api.Row) {
	t.Helper()
	if got := Rows(sources, limit, backward); !slices.Equal(got, want) {
		t.Errorf("P5: Rows(%v, %d, %v) = %v, want %v", sources, limit, backward, got, want)
	}
}

func TestNothingToMerge(t *testing.T) {
	for _, backward := range []bool{false, true} {
		told(t, nil, 50, backward)
		told(t, []Source{{Labels: "a=1"}, {Labels: "b=1"}}, 50, backward)
		told(t, []Source{{"a=1", []stream.Line{{Time: 1}}}}, 0, backward)
	}
}

func TestRowsOfOneSource(t *testing.T) {
	source := []Source{{"a=1", []stream.Line{{Time: 1, Text: "x"}, {Time: 3, Text: "z"}, {Time: 3, Text: "y"}}}}
	x, z, y := api.Row{Labels: "a=1", Time: 1, Line: "x"}, api.Row{Labels: "a=1", Time: 3, Line: "z"}, api.Row{Labels: "a=1", Time: 3, Line: "y"}
	told(t, source, 50, false, x, z, y)
	told(t, source, 2, false, x, z)
	told(t, source, 50, true, y, z, x)
	told(t, source, 1, true, y)
}

func TestRowsOfOneTime(t *testing.T) {
	lines := []stream.Line{{Time: 5, Text: "first"}, {Time: 5, Text: "second"}}
	labels := []string{"a=1", "a=1,b=2", "a=10", "aa=1", "b=1"}
	var want []api.Row
	for _, l := range labels {
		want = append(want, api.Row{Labels: l, Time: 5, Line: "first"}, api.Row{Labels: l, Time: 5, Line: "second"})
	}
	turned := slices.Clone(want)
	slices.Reverse(turned)
	// Whichever way the sources come in.
	for range labels {
		labels = append(labels[1:], labels[0])
		var sources []Source
		for _, l := range labels {
			sources = append(sources, Source{l, lines})
		}
		told(t, sources, 50, false, want...)
		told(t, sources, 50, true, turned...)
		told(t, sources, 3, false, want[:3]...)
		told(t, sources, 3, true, turned[:3]...)
	}
}

func TestTimesGoAheadOfLabels(t *testing.T) {
	sources := []Source{
		{"a=1", []stream.Line{{Time: 4}, {Time: 9}}},
		{"b=1", []stream.Line{{Time: 3}, {Time: 10}}},
		{"c=1", []stream.Line{{Time: 4}}},
	}
	want := []api.Row{{Labels: "b=1", Time: 3}, {Labels: "a=1", Time: 4}, {Labels: "c=1", Time: 4}, {Labels: "a=1", Time: 9}, {Labels: "b=1", Time: 10}}
	for limit := range 7 {
		told(t, sources, limit, false, want[:min(limit, 5)]...)
	}
	slices.Reverse(want)
	for limit := range 7 {
		told(t, sources, limit, true, want[:min(limit, 5)]...)
	}
}

// The sources are the caller's, and stay as they are.
func TestSourcesStay(t *testing.T) {
	lines := []stream.Line{{Time: 1, Text: "x"}, {Time: 2, Text: "y"}}
	sources := []Source{{"b=1", lines}, {"a=1", lines}}
	Rows(sources, 50, false)
	Rows(sources, 50, true)
	if sources[0].Labels != "b=1" || len(sources[0].Lines) != 2 || lines[0].Text != "x" || lines[1].Text != "y" {
		t.Errorf("P2: Rows changed what it was given: %v", sources)
	}
}
