// Package inside tells whether a point lies within a polygon. The coordinates
// must lie within api.MaxCoord both ways.
package inside

import (
	"plumb/api"
	"plumb/segment"
	"plumb/side"
)

// Of tells 0 if p lies on an edge, else 1 or -1 if an odd or an even number of
// edges pass p on its right.
func Of(polygon []api.Point, p api.Point) int {
	answer := -1
	for i, from := range polygon {
		edge := segment.Segment{A: from, B: polygon[(i+1)%len(polygon)]}
		if edge.Holds(p) {
			return 0
		}
		if passesRight(edge, p) {
			answer = -answer
		}
	}
	return answer
}

// passesRight takes an end at the height of p as one below it, so that a corner
// at that height counts once where the polygon goes on, up or down, and twice or
// not at all where it turns back.
func passesRight(edge segment.Segment, p api.Point) bool {
	low, high := edge.A, edge.B
	if low.Y > high.Y {
		low, high = high, low
	}
	return low.Y <= p.Y && p.Y < high.Y && side.Of(low, high, p) > 0
}
