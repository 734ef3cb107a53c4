package order

import (
	"cmp"
	"testing"

	"plumb/api"
)

// list is in the order that the package promises.
func list() []api.Point {
	const m = api.MaxCoord
	return []api.Point{
		{X: -m, Y: -m}, {X: -m, Y: m}, {X: -1, Y: 3}, {X: 0, Y: -9}, {X: 0, Y: 0}, {X: 0, Y: 1}, {X: 1, Y: -m}, {X: m, Y: -m}, {X: m, Y: m},
	}
}

func TestCompare(t *testing.T) {
	for i, a := range list() {
		for j, b := range list() {
			if got := cmp.Compare(Compare(a, b), 0); got != cmp.Compare(i, j) {
				t.Errorf("Compare(%v, %v) has the sign %d", a, b, got)
			}
		}
	}
}

func TestSorted(t *testing.T) {
	for i, a := range list() {
		for _, b := range list()[i:] {
			if first, last := Sorted(a, b); first != a || last != b {
				t.Errorf("Sorted(%v, %v) = %v, %v", a, b, first, last)
			}
			if first, last := Sorted(b, a); first != a || last != b {
				t.Errorf("Sorted(%v, %v) = %v, %v", b, a, first, last)
			}
		}
	}
}
