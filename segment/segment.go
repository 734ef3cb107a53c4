// Package segment tells what lies on a segment, and what two segments have in
// common. The coordinates must lie within api.MaxCoord both ways.
package segment

import (
	"plumb/api"
	"plumb/order"
	"plumb/side"
)

// A Segment are both its ends, and all that lies in a line between them.
type Segment struct {
	A, B api.Point
}

// What two segments have in common, as Meet numbers it.
const (
	Nothing  = iota
	Crossing // one point that is no end
	Touching // one point that is an end
	Overlap  // more than one point
)

// Holds tells whether p lies on the segment.
func (s Segment) Holds(p api.Point) bool {
	first, last := order.Sorted(s.A, s.B)
	return order.Compare(first, p) <= 0 && order.Compare(p, last) <= 0 && side.Of(first, last, p) == 0
}

// Meet tells what both segments have in common.
func Meet(s, t Segment) int {
	tA, tB := side.Of(s.A, s.B, t.A), side.Of(s.A, s.B, t.B)
	sA, sB := side.Of(t.A, t.B, s.A), side.Of(t.A, t.B, s.B)
	switch {
	case tA == 0 && tB == 0 && sA == 0 && sB == 0:
		return meetInLine(s, t)
	case tA*tB > 0 || sA*sB > 0:
		return Nothing
	case tA*tB < 0 && sA*sB < 0:
		return Crossing
	}
	// The lines have one point in common, which lies on both segments, and an
	// end of one that lies in the line of the other can only be this point.
	return Touching
}

// meetInLine is for segments whose ends all lie in one line.
func meetInLine(s, t Segment) int {
	sFirst, sLast := order.Sorted(s.A, s.B)
	tFirst, tLast := order.Sorted(t.A, t.B)
	_, first := order.Sorted(sFirst, tFirst)
	last, _ := order.Sorted(sLast, tLast)
	length := order.Compare(last, first)
	switch {
	case length > 0:
		return Overlap
	case length == 0:
		return Touching
	}
	return Nothing
}
