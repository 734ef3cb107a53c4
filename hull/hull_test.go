package hull

import (
	"slices"
	"testing"

	"plumb/api"
)

func point(x, y int) api.Point { return api.Point{X: x, Y: y} }

// bowed are points that all are corners of their hull.
func bowed(number int) []api.Point {
	list := make([]api.Point, number)
	for i := range list {
		list[i] = point(i, i*i)
	}
	return list
}

// The parts make up the list, in its order, and no room is left behind any.
func TestCut(t *testing.T) {
	for number := range 2 * api.MaxPoints {
		list := bowed(number)
		parts := cut(list)
		if !slices.Equal(slices.Concat(parts...), list) {
			t.Fatalf("the parts of %d points are %v", number, parts)
		}
		for _, part := range parts {
			if len(part) == 0 || cap(part) != len(part) {
				t.Fatalf("a part of %d points has room for %d", len(part), cap(part))
			}
		}
	}
	if parts := cut(bowed(api.MaxPoints)); len(parts) < 2 {
		t.Errorf("the hull of %d points is found in %d part", api.MaxPoints, len(parts))
	}
}

func TestSendCorners(t *testing.T) {
	part := []api.Point{point(0, 0), point(4, 0), point(1, 1), point(0, 4)}
	corners := make(chan api.Point)
	go sendCorners(part, corners)
	var got []api.Point
	for p := range corners {
		got = append(got, p)
	}
	if want := []api.Point{point(0, 0), point(4, 0), point(0, 4)}; !slices.Equal(got, want) {
		t.Errorf("sent %v, want %v", got, want)
	}
}

// What is left of the parts is their corners alone, part by part.
func TestCornersOfParts(t *testing.T) {
	list := slices.Concat(make([]api.Point, api.MaxPoints/2), bowed(api.MaxPoints/2))
	var want []api.Point
	for _, part := range cut(list) {
		want = append(want, around(part)...)
	}
	for range 100 {
		if got := cornersOfParts(list); !slices.Equal(got, want) {
			t.Fatalf("the corners of the parts are %v, want %v", got, want)
		}
	}
}

func TestAround(t *testing.T) {
	for _, c := range []struct {
		list, want []api.Point
	}{
		{nil, nil},
		{[]api.Point{point(1, 2), point(1, 2)}, []api.Point{point(1, 2)}},
		{[]api.Point{point(3, 4), point(1, 2), point(2, 3)}, []api.Point{point(1, 2), point(3, 4)}},
		{[]api.Point{point(0, 4), point(4, 0), point(0, 0)}, []api.Point{point(0, 0), point(4, 0), point(0, 4)}},
	} {
		before := slices.Clone(c.list)
		if got := around(c.list); !slices.Equal(got, c.want) {
			t.Errorf("around(%v) = %v, want %v", c.list, got, c.want)
		}
		if !slices.Equal(before, c.list) {
			t.Errorf("around wrote into %v", before)
		}
	}
}

func TestOf(t *testing.T) {
	list := slices.Concat([]api.Point{point(1, 2), point(0, 0)}, bowed(api.MaxPoints-2))
	slices.Reverse(list[2:])
	want := []int{1}
	for i := range api.MaxPoints - 3 {
		want = append(want, api.MaxPoints-2-i)
	}
	if got := Of(list); !slices.Equal(got, want) {
		t.Errorf("Of(%v) = %v, want %v", list, got, want)
	}
}
