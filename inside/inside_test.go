package inside

import (
	"testing"

	"plumb/api"
	"plumb/segment"
)

func point(x, y int) api.Point { return api.Point{X: x, Y: y} }

func TestOf(t *testing.T) {
	square := []api.Point{point(0, 0), point(4, 0), point(4, 4), point(0, 4)}
	for y := -1; y <= 5; y++ {
		for x := -1; x <= 5; x++ {
			want := 1
			if x%4 == 0 || y%4 == 0 {
				want = 0
			}
			if min(x, y) < 0 || max(x, y) > 4 {
				want = -1
			}
			if got := Of(square, point(x, y)); got != want {
				t.Errorf("Of(%v, (%d, %d)) = %d, want %d", square, x, y, got, want)
			}
		}
	}
	if got := Of(nil, point(0, 0)); got != -1 {
		t.Errorf("Of(nil) = %d", got)
	}
}

// An edge counts at the height of its lower end, and not of its upper one; a
// level one never does.
func TestPassesRight(t *testing.T) {
	for _, c := range []struct {
		a, b, p api.Point
		want    bool
	}{
		{point(3, 0), point(3, 5), point(1, 2), true},
		{point(3, 0), point(3, 5), point(1, 0), true},
		{point(3, 0), point(3, 5), point(1, 5), false},
		{point(3, 0), point(3, 5), point(1, 6), false},
		{point(3, 0), point(3, 5), point(1, -1), false},
		{point(3, 0), point(3, 5), point(4, 2), false},
		{point(0, 0), point(9, 5), point(4, 3), true},
		{point(0, 0), point(9, 5), point(4, 2), false},
		{point(0, 5), point(9, 0), point(4, 2), true},
		{point(0, 5), point(9, 0), point(4, 3), false},
		{point(3, 2), point(9, 2), point(1, 2), false},
		{point(3, 2), point(3, 2), point(1, 2), false},
	} {
		for _, edge := range []segment.Segment{{A: c.a, B: c.b}, {A: c.b, B: c.a}} {
			if got := passesRight(edge, c.p); got != c.want {
				t.Errorf("%v passes %v on its right: %t", edge, c.p, got)
			}
		}
	}
}
