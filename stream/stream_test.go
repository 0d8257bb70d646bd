package stream

import (
	"slices"
	"testing"
)

func TestTimesMayNotFall(t *testing.T) {
	s := New("a=b")
	if s.Labels() != "a=b" || s.Len() != 0 || !s.Takes(0) {
		t.Error("P3: a new stream has its labels, no line, and takes the time 0")
	}
	s.Add(5, "x")
	for time, want := range map[int]bool{0: false, 4: false, 5: true, 6: true} {
		if s.Takes(time) != want {
			t.Errorf("P3: behind a line at 5: Takes(%d) = %v", time, !want)
		}
	}
	s.Drop(6)
	if s.Len() != 0 || s.Takes(4) || !s.Takes(5) {
		t.Error("P3: a line that is gone does not bar earlier ones")
	}
}

func TestDropLeavesTheLaterLines(t *testing.T) {
	for before, want := range map[int]int{0: 0, 1: 1, 2: 1, 3: 3, 4: 3, 5: 4, 100: 4} {
		s := New("a=b")
		for i, time := range []int{0, 2, 2, 4} {
			s.Add(time, string(rune('a'+i)))
		}
		if n := s.Drop(before); n != want || s.Len() != 4-want {
			t.Errorf("P4: Drop(%d) = %d with %d left, want %d", before, n, s.Len(), want)
		}
		for i, line := range s.lines {
			if line.Text != string(rune('a'+want+i)) || line.Time < before {
				t.Errorf("P4: Drop(%d) left %v at %d", before, line, i)
			}
		}
	}
}

// What is gone must not stay in memory behind the stream's back.
func TestDroppedTextsAreLetGo(t *testing.T) {
	s := New("a=b")
	for i := range 4 {
		s.Add(i, string(rune('a'+i)))
	}
	memory := s.lines[:cap(s.lines)]
	s.Drop(3)
	for i, line := range memory {
		if line.Text != "" && line.Text != "d" {
			t.Errorf("P4: the text %q is gone, and still held at %d", line.Text, i)
		}
	}
}

func TestFindTellsLinesOfARange(t *testing.T) {
	s := New("a=b")
	lines := []Line{{0, "a"}, {2, "b"}, {2, "x"}, {2, "c"}, {4, "d"}, {1000000, "e"}}
	for _, line := range lines {
		s.Add(line.Time, line.Text)
	}
	for _, one := range []struct {
		from, to int
		want     []Line
	}{
		{0, 1000001, []Line{{0, "a"}, {2, "b"}, {2, "c"}, {4, "d"}, {1000000, "e"}}},
		{0, 1000000, []Line{{0, "a"}, {2, "b"}, {2, "c"}, {4, "d"}}},
		{-5, 1, []Line{{0, "a"}}},
		{0, 2, []Line{{0, "a"}}},
		{1, 3, []Line{{2, "b"}, {2, "c"}}},
		{2, 4, []Line{{2, "b"}, {2, "c"}}},
		{2, 2, nil},
		{3, 4, nil},
		{4, 2, nil},
	} {
		found := s.Find(one.from, one.to, func(text string) bool { return text != "x" })
		if !slices.Equal(found, one.want) {
			t.Errorf("P5: Find(%d, %d) = %v, want %v", one.from, one.to, found, one.want)
		}
		for i := range found {
			found[i].Text = "other"
		}
	}
	if !slices.Equal(s.lines, lines) {
		t.Errorf("P2: what was found shares memory with the stream: %v", s.lines)
	}
}
