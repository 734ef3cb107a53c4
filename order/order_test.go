package order

import (
	"cmp"
	"maps"
	"slices"
	"testing"

	"plumb/api"
)

// list is in the order that the package promises.
func list() []api.Point {
	const m = api.MaxCoord
	return []api.Point{
		{X: -m, Y: -m}, {X: -m, Y: m}, {X: -1, Y: 3}, {X: 0, Y: -9}, {X: 0, Y: 0}, {X: 0, Y: 1}, {X: 1, Y: -m}, {X: m, Y: -m}, {X: m, Y: m},
	}
}

func TestCompare(t *testing.T) {
	for i, a := range list() {
		for j, b := range list() {
			if got := cmp.Compare(Compare(a, b), 0); got != cmp.Compare(i, j) {
				t.Errorf("Compare(%v, %v) has the sign %d", a, b, got)
			}
		}
	}
}

func TestSorted(t *testing.T) {
	for i, a := range list() {
		for _, b := range list()[i:] {
			if first, last := Sorted(a, b); first != a || last != b {
				t.Errorf("Sorted(%v, %v) = %v, %v", a, b, first, last)
			}
			if first, last := Sorted(b, a); first != a || last != b {
				t.Errorf("Sorted(%v, %v) = %v, %v", b, a, first, last)
			}
		}
	}
}

func TestDistinct(t *testing.T) {
	mixed := slices.Concat(list()[4:], list(), list()[:6])
	slices.Reverse(mixed)
	before := slices.Clone(mixed)
	got := Distinct(mixed)
	if !slices.Equal(got, list()) {
		t.Errorf("Distinct(%v) = %v", mixed, got)
	}
	clear(got[:cap(got)])
	if !slices.Equal(mixed, before) {
		t.Errorf("Distinct wrote into %v, or handed it out", before)
	}
	if got := Distinct(nil); len(got) != 0 {
		t.Errorf("Distinct of no points = %v", got)
	}
}

func TestFirstNumbers(t *testing.T) {
	a, b, c := list()[0], list()[1], list()[2]
	got := FirstNumbers([]api.Point{b, a, b, b, c, a})
	if want := map[api.Point]int{b: 0, a: 1, c: 4}; !maps.Equal(got, want) {
		t.Errorf("FirstNumbers = %v, want %v", got, want)
	}
	if got := FirstNumbers(nil); len(got) != 0 {
		t.Errorf("FirstNumbers of no points = %v", got)
	}
}
