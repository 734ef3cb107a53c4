package plumb

import (
	"math/big"
	"math/rand/v2"
	"testing"

	"plumb/api"
)

// wholeMeet works out where on each segment the lines meet, in fractions.
func wholeMeet(a, b, c, d api.Point) int {
	turn := cross(a, b, c, d)
	if turn.Sign() == 0 {
		return wholeMeetAlong(a, b, c, d)
	}
	onFirst := new(big.Rat).SetFrac(cross(a, c, c, d), turn)
	onSecond := new(big.Rat).SetFrac(cross(a, c, a, b), turn)
	zero, one := new(big.Rat), big.NewRat(1, 1)
	answer := 1
	for _, part := range []*big.Rat{onFirst, onSecond} {
		if part.Cmp(zero) < 0 || part.Cmp(one) > 0 {
			return 0
		}
		if part.Cmp(zero) == 0 || part.Cmp(one) == 0 {
			answer = 2
		}
	}
	return answer
}

// wholeMeetAlong is for segments that go the same way, or no way.
func wholeMeetAlong(a, b, c, d api.Point) int {
	if a == b {
		a, b, c, d = c, d, a, b
	}
	if a == b {
		if a == c {
			return 2
		}
		return 0
	}
	if cross(a, b, a, c).Sign() != 0 {
		return 0
	}
	from, to := dot(a, b, a, c), dot(a, b, a, d)
	if from.Cmp(to) > 0 {
		from, to = to, from
	}
	if from.Sign() < 0 {
		from = new(big.Int)
	}
	if length := dot(a, b, a, b); to.Cmp(length) > 0 {
		to = length
	}
	switch from.Cmp(to) {
	case -1:
		return 3
	case 0:
		return 2
	}
	return 0
}

// checkMeet asks whichever comes first and whichever way round.
func checkMeet(t *testing.T, a, b, c, d api.Point, want int) {
	t.Helper()
	for _, l := range [][4]api.Point{
		{a, b, c, d}, {b, a, c, d}, {a, b, d, c}, {b, a, d, c},
		{c, d, a, b}, {d, c, a, b}, {c, d, b, a}, {d, c, b, a},
	} {
		if got, e := Meet(l[0], l[1], l[2], l[3]); got != want || e != api.OK {
			t.Fatalf("P5: Meet(%v) = %d, %d, want %d", l, got, e, want)
		}
	}
}

// P5, example 3, and each way in which segments can lie to each other.
func TestMeet(t *testing.T) {
	for _, c := range []struct {
		name       string
		a, b, c, d api.Point
		want       int
	}{
		{"cross", point(0, 0), point(4, 4), point(0, 4), point(4, 0), 1},
		{"cross in no whole point", point(0, 0), point(1, 1), point(0, 1), point(1, 0), 1},
		{"cross near an end", point(0, 0), point(9, 0), point(8, 1), point(9, -9), 1},
		{"an end in the middle", point(0, 0), point(4, 0), point(2, 0), point(2, 5), 2},
		{"an end on an end", point(0, 0), point(4, 4), point(4, 4), point(0, 8), 2},
		{"both from one end", point(0, 0), point(4, 1), point(0, 0), point(4, -1), 2},
		{"an end in the line, beyond", point(0, 0), point(4, 0), point(5, 0), point(5, 5), 0},
		{"pass by", point(0, 0), point(4, 0), point(2, 1), point(2, 5), 0},
		{"side by side", point(0, 0), point(4, 0), point(0, 1), point(4, 1), 0},
		{"past both ends", point(0, 0), point(4, 0), point(5, -1), point(6, 1), 0},
		{"in a line, one over the other", point(0, 0), point(4, 0), point(1, 0), point(9, 0), 3},
		{"in a line, one in the other", point(0, 0), point(9, 0), point(2, 0), point(3, 0), 3},
		{"in a line, from one end", point(0, 0), point(9, 3), point(0, 0), point(3, 1), 3},
		{"the same", point(1, 2), point(4, 7), point(1, 2), point(4, 7), 3},
		{"in a line, end to end", point(0, 0), point(4, 0), point(4, 0), point(9, 0), 2},
		{"in a line, apart", point(0, 0), point(4, 0), point(5, 0), point(9, 0), 0},
		{"upright, one over the other", point(3, 0), point(3, 5), point(3, 4), point(3, 9), 3},
		{"upright, end to end", point(3, 0), point(3, 5), point(3, 5), point(3, 9), 2},
		{"upright, apart", point(3, 0), point(3, 5), point(3, 6), point(3, 9), 0},
		{"downwards, one over the other", point(0, 9), point(6, 3), point(4, 5), point(9, 0), 3},
		{"one point, in the middle", point(1, 1), point(1, 1), point(0, 0), point(2, 2), 2},
		{"one point, on an end", point(0, 0), point(0, 0), point(0, 0), point(2, 2), 2},
		{"one point, in the line, beyond", point(3, 3), point(3, 3), point(0, 0), point(2, 2), 0},
		{"one point, beside", point(1, 0), point(1, 0), point(0, 0), point(2, 2), 0},
		{"one point each, the same", point(1, 1), point(1, 1), point(1, 1), point(1, 1), 2},
		{"one point each, others", point(1, 1), point(1, 1), point(2, 2), point(2, 2), 0},
		{"one point each, one above the other", point(1, 1), point(1, 1), point(1, 2), point(1, 2), 0},
	} {
		t.Run(c.name, func(t *testing.T) { checkMeet(t, c.a, c.b, c.c, c.d, c.want) })
	}
}

// P5 where float64 alone takes what lies beside a line as in it, or on its other side.
func TestMeetOfGreatCoordinates(t *testing.T) {
	checkMeet(t, point(-m, -m), point(m, m), point(-m, m), point(m, -m), 1)
	checkMeet(t, point(-m, -m), point(m, m), point(5, 5), point(6, 5), 2)
	checkMeet(t, point(-m, -m), point(m, m-1), point(0, 0), point(0, m), 0)
	checkMeet(t, point(-m, -m), point(m, m-1), point(0, 0), point(0, -m), 1)
	checkMeet(t, point(0, 0), point(m, m-1), point(m-1, m-2), point(m-1, -m), 0)
	checkMeet(t, point(0, 0), point(m, m-1), point(m-1, m-2), point(m-1, m), 1)
	checkMeet(t, point(0, 0), point(m, m-1), point(m-1, m-2), point(m-1, m-2), 0)
	checkMeet(t, point(-m, 1-m), point(m-1, m), point(0, 1), point(1, -m), 2)
	checkMeet(t, point(-m, 1-m), point(m-1, m), point(-1, 0), point(0, 1), 3)
	checkMeet(t, point(m, -m), point(m, m), point(m, m-1), point(m, m), 3)
	checkMeet(t, point(-m, m), point(m, -m), point(1-m, m-1), point(m, m), 2)
}

// P5 at all choices of these points, against fractions.
func TestMeetOfCorners(t *testing.T) {
	list := corners()
	for i, a := range list {
		for _, b := range list[i:] {
			for j, c := range list {
				for _, d := range list[j:] {
					checkMeet(t, a, b, c, d, wholeMeet(a, b, c, d))
				}
			}
		}
	}
}

// P5 at all choices of points that lie close together, where all cases come up.
func TestMeetOfGrid(t *testing.T) {
	list := grid(4, 4)
	found := make(map[int]int)
	for i, a := range list {
		for _, b := range list[i:] {
			for j, c := range list {
				for _, d := range list[j:] {
					want := wholeMeet(a, b, c, d)
					found[want]++
					checkMeet(t, a, b, c, d, want)
				}
			}
		}
	}
	if len(found) != 4 {
		t.Errorf("not all answers come up: %v", found)
	}
}

// P5 near lines and anywhere, against fractions.
func TestMeetAnywhere(t *testing.T) {
	r := rand.New(rand.NewPCG(5, 5))
	for range 20000 {
		for _, l := range [][]api.Point{nearLine(r, 4), anywhere(r, 4)} {
			checkMeet(t, l[0], l[1], l[2], l[3], wholeMeet(l[0], l[1], l[2], l[3]))
		}
	}
}
