// Package order puts points in an order: by X, and by Y where X is the same.
// Along any line, an upright one too, this is the order in which they stand.
package order

import (
	"cmp"
	"slices"

	"plumb/api"
)

// Compare is negative if a comes ahead of b, 0 if they are the same, and
// positive if a comes behind b.
func Compare(a, b api.Point) int {
	return cmp.Or(cmp.Compare(a.X, b.X), cmp.Compare(a.Y, b.Y))
}

// Sorted hands back both points, the one that comes ahead of the other first.
func Sorted(a, b api.Point) (first, last api.Point) {
	if Compare(a, b) > 0 {
		return b, a
	}
	return a, b
}

// Distinct hands back, as a list of its own, the points in their order, each of
// them once.
func Distinct(list []api.Point) []api.Point {
	sorted := slices.Clone(list)
	slices.SortFunc(sorted, Compare)
	return slices.Compact(sorted)
}

// FirstNumbers tells where in the list each point stands; the first of points
// that are the same stands for all.
func FirstNumbers(list []api.Point) map[api.Point]int {
	first := make(map[api.Point]int, len(list))
	for i, p := range list {
		if _, known := first[p]; !known {
			first[p] = i
		}
	}
	return first
}
