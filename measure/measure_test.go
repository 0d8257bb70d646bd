package measure

import (
	"math"
	"slices"
	"testing"

	"loam/api"
)

func sample(key string, x float32) api.Sample {
	return api.Sample{Key: key, Bits: int(math.Float32bits(x))}
}

func told(t *testing.T, g *Groups, want ...api.Sample) {
	t.Helper()
	if got := g.Samples(); !slices.Equal(got, want) {
		t.Errorf("P6: samples of %s = %v, want %v", g.kind, got, want)
	}
}

// add makes groups of one kind: a key and a line by turns.
func add(kind string, span int, lines ...string) *Groups {
	g := New(kind, span)
	for i := 0; i < len(lines); i += 2 {
		g.Add(lines[i], lines[i+1])
	}
	return g
}

func TestNoLines(t *testing.T) {
	for _, kind := range []string{"count", "rate", "bytes", "mean"} {
		told(t, New(kind, 1))
	}
}

func TestEachKind(t *testing.T) {
	lines := []string{"", "7", "", "", "", "-4", "", "x y"}
	told(t, add("count", 3, lines...), sample("", 4))
	told(t, add("rate", 3, lines...), sample("", float32(4)/3))
	told(t, add("bytes", 3, lines...), sample("", 6))
	told(t, add("mean", 3, lines...), sample("", 1.5))
}

// Whichever way the keys come in.
func TestKeysRise(t *testing.T) {
	keys := []string{"", "0", "1", "10", "9", "a", "aa", "b"}
	var want []api.Sample
	for _, key := range keys {
		want = append(want, sample(key, 2))
	}
	for range keys {
		keys = append(keys[1:], keys[0])
		g := New("count", 1)
		for range 2 {
			for _, key := range keys {
				g.Add(key, "x")
			}
		}
		told(t, g, want...)
	}
}

func TestGroupsAreApart(t *testing.T) {
	lines := []string{"b", "1", "a", "22", "b", "-3", "", "x", "a", ""}
	told(t, add("count", 2, lines...), sample("", 1), sample("a", 2), sample("b", 2))
	told(t, add("rate", 2, lines...), sample("", 0.5), sample("a", 1), sample("b", 1))
	told(t, add("bytes", 2, lines...), sample("", 1), sample("a", 2), sample("b", 3))
	told(t, add("mean", 2, lines...), sample("a", 22), sample("b", -1))
}

// A list that came out is not touched by lines that come in later.
func TestSamplesAreNewMemory(t *testing.T) {
	g := add("count", 1, "a", "x")
	first := g.Samples()
	g.Add("a", "x")
	told(t, g, sample("a", 2))
	if !slices.Equal(first, []api.Sample{sample("a", 1)}) {
		t.Errorf("P2: samples that had come out are now %v", first)
	}
}

func TestNumbers(t *testing.T) {
	for line, want := range map[string]int{
		"0": 0, "7": 7, "00": 0, "007": 7, "000000": 0, "000012": 12, "999999": 999999, "123456": 123456,
		"-0": 0, "-7": -7, "-007": -7, "-000000": 0, "-000001": -1, "-999999": -999999,
	} {
		if n, ok := number(line); n != want || !ok {
			t.Errorf("number(%q) = %d, %v, want %d", line, n, ok, want)
		}
	}
}

func TestNoNumbers(t *testing.T) {
	for _, line := range []string{
		"", "-", "--", "--1", "-+1", "+1", "+", "1-", "1-1", "-1-", "0000007", "1000000", "-0000007", "-1000000", "00000000000000000000",
		" 1", "1 ", "1 2", "- 1", "1.5", "1.", ".5", "1e3", "0x1", "1_0", "1,0", "x", "7x", "x7", "1\n", "\x001", "1\x00", "/", ":", "1/", "1:", "٣", "７", "−1", "NaN", "Inf", "inf", "\"1\"",
	} {
		if n, ok := number(line); ok {
			t.Errorf("number(%q) = %d, want none", line, n)
		}
	}
}

// One byte may spoil a number at any of its places.
func TestBytesOfNumbers(t *testing.T) {
	for b := range 256 {
		isDigit := '0' <= b && b <= '9'
		for _, parts := range [][2]string{{"", ""}, {"", "12345"}, {"12", "345"}, {"12345", ""}, {"-", ""}, {"-1", "2"}} {
			line := parts[0] + string([]byte{byte(b)}) + parts[1]
			want := isDigit || b == '-' && parts == [2]string{"", "12345"}
			if _, ok := number(line); ok != want {
				t.Errorf("number(%q): %v, want %v", line, ok, want)
			}
		}
	}
}
