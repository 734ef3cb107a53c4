// Package hull finds the corners of the smallest convex polygon with some points
// in it. The coordinates must lie within api.MaxCoord both ways.
package hull

import (
	"slices"

	"plumb/api"
	"plumb/order"
	"plumb/side"
)

// Of tells the numbers, in the list, of the hull's corners, counterclockwise from
// the one that order puts first. The hull is found in parts: what is a corner of
// the whole is a corner of its part too.
func Of(list []api.Point) []int {
	first := order.FirstNumbers(list)
	whole := around(cornersOfParts(list))
	numbers := make([]int, len(whole))
	for i, p := range whole {
		numbers[i] = first[p]
	}
	return numbers
}

// cornersOfParts lets all parts be worked on before it waits for the first, and
// takes them in their order, so that how the work goes is not to be seen.
func cornersOfParts(list []api.Point) []api.Point {
	var parts []chan api.Point
	for _, part := range cut(list) {
		corners := make(chan api.Point)
		go sendCorners(part, corners)
		parts = append(parts, corners)
	}
	var all []api.Point
	for _, corners := range parts {
		for p := range corners {
			all = append(all, p)
		}
	}
	return all
}

// cut makes parts of some points each, none of which has room behind it: what
// one appends to a part does not reach the next one.
func cut(list []api.Point) [][]api.Point {
	const size = 8
	var parts [][]api.Point
	for from := 0; from < len(list); from += size {
		to := min(from+size, len(list))
		parts = append(parts, list[from:to:to])
	}
	return parts
}

// sendCorners closes the channel, which is this part's alone, behind the last.
func sendCorners(part []api.Point, corners chan<- api.Point) {
	defer close(corners)
	for _, p := range around(part) {
		corners <- p
	}
}

// around goes round the points counterclockwise: there below them, back above.
func around(list []api.Point) []api.Point {
	sorted := order.Distinct(list)
	if len(sorted) < 2 {
		return sorted
	}
	there := leftTurns(sorted)
	slices.Reverse(sorted)
	back := leftTurns(sorted)
	// Each way ends where the other one begins.
	return slices.Concat(there[:len(there)-1], back[:len(back)-1])
}

// leftTurns goes from the first point to the last, and leaves out what does not
// lie to the right of the straight way past it.
func leftTurns(sorted []api.Point) []api.Point {
	var way []api.Point
	for _, p := range sorted {
		for len(way) >= 2 && side.Of(way[len(way)-2], way[len(way)-1], p) <= 0 {
			way = way[:len(way)-1]
		}
		way = append(way, p)
	}
	return way
}
