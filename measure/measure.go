// Package measure works out what lines come to, by groups.
package measure

import (
	"math"
	"slices"
	"strings"

	"loam/api"
)

// Groups: what the lines of each group come to.
type Groups struct {
	kind   string // count, rate, bytes or mean
	span   int
	groups []group // rising by their keys
}

type group struct {
	key               string
	lines, bytes, sum int
}

// New makes groups without lines, for a measure of this kind over this span.
func New(kind string, span int) *Groups {
	return &Groups{kind: kind, span: span}
}

// Add takes a line into the group with this key.
func (g *Groups) Add(key string, line string) {
	n, isNumber := number(line)
	// A group of which a mean knows no number must not come to be.
	if g.kind == "mean" && !isNumber {
		return
	}
	one := g.group(key)
	one.lines++
	one.bytes += len(line)
	one.sum += n
}

// Samples tells a sample of each group, in the order of their keys.
func (g *Groups) Samples() []api.Sample {
	list := make([]api.Sample, 0, len(g.groups))
	for _, one := range g.groups {
		list = append(list, api.Sample{Key: one.key, Bits: int(math.Float32bits(g.value(one)))})
	}
	return list
}

// value works out what a group comes to. Sums are whole numbers up to here,
// so that each is rounded once.
func (g *Groups) value(one group) float32 {
	switch g.kind {
	case "rate":
		return float32(one.lines) / float32(g.span)
	case "bytes":
		return float32(one.bytes)
	case "mean":
		return float32(one.sum) / float32(one.lines)
	}
	return float32(one.lines)
}

// group finds the group with this key, and makes it if it is not there.
func (g *Groups) group(key string) *group {
	place, there := slices.BinarySearchFunc(g.groups, key, func(one group, wanted string) int {
		return strings.Compare(one.key, wanted)
	})
	if !there {
		g.groups = slices.Insert(g.groups, place, group{key: key})
	}
	return &g.groups[place]
}
