package segment

import (
	"testing"

	"plumb/api"
)

const m = api.MaxCoord

func point(x, y int) api.Point { return api.Point{X: x, Y: y} }

func TestHolds(t *testing.T) {
	for _, c := range []struct {
		a, b, p api.Point
		want    bool
	}{
		{point(0, 0), point(6, 3), point(0, 0), true},
		{point(0, 0), point(6, 3), point(6, 3), true},
		{point(0, 0), point(6, 3), point(2, 1), true},
		{point(0, 0), point(6, 3), point(2, 2), false},
		{point(0, 0), point(6, 3), point(8, 4), false},
		{point(0, 0), point(6, 3), point(-2, -1), false},
		{point(3, 1), point(3, 7), point(3, 4), true},
		{point(3, 1), point(3, 7), point(3, 8), false},
		{point(3, 1), point(3, 7), point(3, 0), false},
		{point(3, 1), point(3, 7), point(4, 4), false},
		{point(2, 2), point(2, 2), point(2, 2), true},
		{point(2, 2), point(2, 2), point(2, 3), false},
		{point(2, 2), point(2, 2), point(1, 2), false},
		{point(0, 0), point(m, m-1), point(m-1, m-2), false},
		{point(-m, 1-m), point(m-1, m), point(0, 1), true},
		{point(-m, 1-m), point(m-1, m), point(0, 0), false},
	} {
		for _, s := range []Segment{{A: c.a, B: c.b}, {A: c.b, B: c.a}} {
			if got := s.Holds(c.p); got != c.want {
				t.Errorf("%v holds %v: %t", s, c.p, got)
			}
		}
	}
}

func TestMeet(t *testing.T) {
	for _, c := range []struct {
		s, t Segment
		want int
	}{
		{Segment{point(0, 0), point(4, 4)}, Segment{point(0, 4), point(4, 0)}, Crossing},
		{Segment{point(0, 0), point(4, 0)}, Segment{point(2, 0), point(2, 5)}, Touching},
		{Segment{point(0, 0), point(4, 0)}, Segment{point(9, 0), point(4, 0)}, Touching},
		{Segment{point(0, 0), point(4, 0)}, Segment{point(9, 0), point(3, 0)}, Overlap},
		{Segment{point(0, 0), point(4, 0)}, Segment{point(9, 0), point(5, 0)}, Nothing},
		{Segment{point(0, 0), point(4, 0)}, Segment{point(2, 1), point(2, 2)}, Nothing},
		{Segment{point(1, 1), point(1, 1)}, Segment{point(0, 0), point(2, 2)}, Touching},
		{Segment{point(1, 1), point(1, 1)}, Segment{point(0, 0), point(2, 3)}, Nothing},
	} {
		if got := Meet(c.s, c.t); got != c.want {
			t.Errorf("Meet(%v, %v) = %d, want %d", c.s, c.t, got, c.want)
		}
		if got := Meet(c.t, c.s); got != c.want {
			t.Errorf("Meet(%v, %v) = %d, want %d", c.t, c.s, got, c.want)
		}
	}
}

// The numbers are those that P5 names.
func TestNumbers(t *testing.T) {
	if got := [4]int{Nothing, Crossing, Touching, Overlap}; got != [4]int{0, 1, 2, 3} {
		t.Errorf("the numbers are %v", got)
	}
}
