package loam_test

import (
	"testing"
	"unsafe"

	"loam/api"
	"loam/loam"
)

func TestStoresKnowNothingOfOneAnother(t *testing.T) {
	a, b, c := loam.New(), loam.New(), loam.New()
	if a == b || b == c || a == c {
		t.Fatal("P2: two stores are one")
	}
	for _, l := range six {
		push(t, a, l, 9, "x", api.OK)
	}
	push(t, b, "z=1", 3, "x", api.OK)
	push(t, b, six[0], 3, "x", api.OK)
	push(t, a, "z=1", 9, "x", api.ErrStreams)
	streams(t, a, six...)
	streams(t, b, six[0], "z=1")
	streams(t, c)
	drop(t, a, 100, 6, api.OK)
	drop(t, b, 100, 2, api.OK)
	drop(t, c, 100, 0, api.OK)
	push(t, a, six[0], 8, "x", api.ErrOrder)
	push(t, b, six[0], 8, "x", api.OK)
}

func TestAFullStoreLeavesRoomInOthers(t *testing.T) {
	a, b := loam.New(), loam.New()
	for range api.MaxLines {
		push(t, a, "a=b", 1, "x", api.OK)
		push(t, b, "a=b", 2, "x", api.OK)
	}
	push(t, a, "a=b", 2, "x", api.ErrFull)
	drop(t, b, 3, api.MaxLines, api.OK)
	push(t, a, "a=b", 2, "x", api.ErrFull)
	push(t, b, "a=b", 2, "x", api.OK)
	drop(t, a, 2, api.MaxLines, api.OK)
}

func TestListsOfStreamsAreNewMemory(t *testing.T) {
	s := filled(t, six[:3], 1)
	first, second := s.Streams(), s.Streams()
	for i := range first {
		first[i] = "mine"
	}
	_ = append(first[:0], "x=1", "y=1")
	if second[0] != six[0] {
		t.Error("P2: two lists share memory")
	}
	streams(t, s, six[:3]...)
	push(t, s, six[0], 0, "x", api.ErrOrder)
	push(t, s, six[4], 0, "x", api.OK)
	if first[0] != "x=1" || second[2] != six[2] || len(second) != 3 {
		t.Error("P2: a push changed a list that had come out")
	}
	streams(t, s, six[0], six[1], six[2], six[4])
}

// What the owner writes behind the end of a list does not reach the store either.
func TestWritingBehindAListReachesNothing(t *testing.T) {
	s := filled(t, six[:3], 1)
	for range 3 {
		list := s.Streams()
		whole := list[:cap(list)]
		for i := range whole {
			whole[i] = "mine"
		}
		streams(t, s, six[:3]...)
	}
}

func TestLabelsThatWereHandedInAreCopied(t *testing.T) {
	s := loam.New()
	great := "a=b and much more that nobody should keep"
	labels := great[:3]
	push(t, s, labels, 1, "x", api.OK)
	if unsafe.StringData(s.Streams()[0]) == unsafe.StringData(labels) {
		t.Error("P2: an answer shares memory with an argument")
	}
}

// The same calls answer the same, however often they are made on new stores.
func TestAnswersHangOnTheCallsAlone(t *testing.T) {
	for range 20 {
		TestFirstExample(t)
		TestStreamsAreInOrder(t)
	}
}
