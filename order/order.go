// Package order puts points in an order: by X, and by Y where X is the same.
// Along any line, an upright one too, this is the order in which they stand.
package order

import (
	"cmp"

	"plumb/api"
)

// Compare is negative if a comes ahead of b, 0 if they are the same, and
// positive if a comes behind b.
func Compare(a, b api.Point) int {
	return cmp.Or(cmp.Compare(a.X, b.X), cmp.Compare(a.Y, b.Y))
}

// Sorted hands back both points, the one that comes ahead of the other first.
func Sorted(a, b api.Point) (first, last api.Point) {
	if Compare(a, b) > 0 {
		return b, a
	}
	return a, b
}
