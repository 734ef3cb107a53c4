package plumb

import (
	"math/big"
	"math/rand/v2"
	"slices"
	"testing"

	"plumb/api"
)

// wholeWithin is P6 word for word, in fractions.
func wholeWithin(polygon []api.Point, p api.Point) int {
	passing := 0
	for i, u := range polygon {
		v := polygon[(i+1)%len(polygon)]
		if cross(u, v, u, p).Sign() == 0 && dot(p, u, p, v).Sign() <= 0 && (u != v || u == p) {
			return 0
		}
		if (u.Y > p.Y) != (v.Y > p.Y) && crossingX(u, v, p.Y).Cmp(new(big.Rat).SetInt(whole(p.X))) > 0 {
			passing++
		}
	}
	if passing%2 == 1 {
		return 1
	}
	return -1
}

// crossingX is where the line through u and v has this Y.
func crossingX(u, v api.Point, y int) *big.Rat {
	x := new(big.Rat).SetFrac(whole(y-u.Y), whole(v.Y-u.Y))
	x.Mul(x, new(big.Rat).SetInt(whole(v.X-u.X)))
	return x.Add(x, new(big.Rat).SetInt(whole(u.X)))
}

// checkWithin asks at each start and both ways round, which P6 does not tell apart.
func checkWithin(t *testing.T, polygon []api.Point, p api.Point, want int) {
	t.Helper()
	for i := range max(len(polygon), 1) {
		turned := slices.Concat(polygon[i:], polygon[:i])
		for range 2 {
			if got, e := Within(turned, p); got != want || e != api.OK {
				t.Fatalf("P6: Within(%v, %v) = %d, %d, want %d", turned, p, got, e, want)
			}
			slices.Reverse(turned)
		}
	}
}

// P6, example 4, and each way in which a point can lie to a polygon.
func TestWithin(t *testing.T) {
	square := []api.Point{point(0, 0), point(4, 0), point(4, 4), point(0, 4)}
	lozenge := []api.Point{point(0, -5), point(5, 0), point(0, 5), point(-5, 0)}
	comb := []api.Point{
		point(0, 0), point(9, 0), point(9, 5), point(6, 5), point(6, 2), point(3, 2), point(3, 5), point(0, 5),
	}
	saw := []api.Point{point(0, 0), point(2, 4), point(4, 0), point(6, 4), point(8, 0), point(8, -3), point(0, -3)}
	for _, c := range []struct {
		name    string
		polygon []api.Point
		p       api.Point
		want    int
	}{
		{"inside", square, point(1, 1), 1},
		{"right of it", square, point(5, 2), -1},
		{"left of it", square, point(-1, 2), -1},
		{"above it", square, point(2, 5), -1},
		{"below it", square, point(2, -1), -1},
		{"on an upright edge", square, point(4, 2), 0},
		{"on a level edge", square, point(2, 4), 0},
		{"on a corner", square, point(0, 0), 0},
		{"on the last corner", square, point(0, 4), 0},
		{"on the edge from the last to the first", square, point(0, 3), 0},
		{"level with the upper edge, left", square, point(-1, 4), -1},
		{"level with the upper edge, right", square, point(5, 4), -1},
		{"level with the lower edge, left", square, point(-1, 0), -1},
		{"level with the lower edge, right", square, point(5, 0), -1},
		{"level with two corners, inside", lozenge, point(0, 0), 1},
		{"level with two corners, left", lozenge, point(-6, 0), -1},
		{"level with two corners, right", lozenge, point(6, 0), -1},
		{"level with the upper corner", lozenge, point(-2, 5), -1},
		{"level with the lower corner", lozenge, point(-2, -5), -1},
		{"on a slanting edge", lozenge, point(2, 3), 0},
		{"beside a slanting edge, inside", lozenge, point(2, 2), 1},
		{"beside a slanting edge, outside", lozenge, point(3, 3), -1},
		{"in the comb's first tooth", comb, point(1, 4), 1},
		{"in the comb's gap", comb, point(4, 4), -1},
		{"in the comb's last tooth", comb, point(7, 4), 1},
		{"in the comb's back", comb, point(4, 1), 1},
		{"on the bottom of the comb's gap", comb, point(4, 2), 0},
		{"level with the bottom of the comb's gap", comb, point(1, 2), 1},
		{"level with the bottom of the comb's gap, left", comb, point(-5, 2), -1},
		{"level with the ends of the comb's teeth", comb, point(-5, 5), -1},
		{"between the ends of the comb's teeth", comb, point(5, 5), -1},
		{"level with the saw's teeth, left", saw, point(-1, 4), -1},
		{"between the saw's teeth", saw, point(4, 4), -1},
		{"level with the saw's gaps, left", saw, point(-1, 0), -1},
		{"level with the saw's gaps, inside", saw, point(3, 0), 1},
		{"on the saw's gap", saw, point(4, 0), 0},
	} {
		t.Run(c.name, func(t *testing.T) { checkWithin(t, c.polygon, c.p, c.want) })
	}
}

// P6: polygons that cross themselves, go over an edge twice, or are hardly any.
func TestWithinOddPolygons(t *testing.T) {
	bow := []api.Point{point(0, 0), point(4, 4), point(4, 0), point(0, 4)}
	star := []api.Point{point(0, 0), point(10, 0), point(2, 6), point(5, -4), point(8, 6)}
	twice := []api.Point{
		point(0, 0), point(4, 0), point(4, 4), point(0, 4), point(0, 0), point(4, 0), point(4, 4), point(0, 4),
	}
	spike := []api.Point{point(0, 0), point(4, 0), point(4, 2), point(9, 2), point(4, 2), point(4, 4), point(0, 4)}
	for _, c := range []struct {
		name    string
		polygon []api.Point
		p       api.Point
		want    int
	}{
		{"where the bow crosses itself", bow, point(2, 2), 0},
		{"in the bow's left half", bow, point(1, 2), 1},
		{"in the bow's right half", bow, point(3, 2), 1},
		{"above the bow's crossing", bow, point(2, 3), -1},
		{"in the star's middle", star, point(5, 1), -1},
		{"in a point of the star", star, point(5, -1), 1},
		{"in another point of the star", star, point(3, 4), 1},
		{"on the star's edge", star, point(9, 0), 0},
		{"beside the star", star, point(1, 3), -1},
		{"within what goes round twice", twice, point(1, 1), -1},
		{"on what goes round twice", twice, point(4, 1), 0},
		{"on the spike", spike, point(7, 2), 0},
		{"at the end of the spike", spike, point(9, 2), 0},
		{"beyond the spike", spike, point(10, 2), -1},
		{"level with the spike", spike, point(1, 2), 1},
		{"above the spike", spike, point(7, 3), -1},
		{"no points", nil, point(0, 0), -1},
		{"no points, but a list", []api.Point{}, point(3, 3), -1},
		{"one point, there", []api.Point{point(1, 1)}, point(1, 1), 0},
		{"one point, level, left", []api.Point{point(1, 1)}, point(0, 1), -1},
		{"one point, level, right", []api.Point{point(1, 1)}, point(2, 1), -1},
		{"one point, below", []api.Point{point(1, 1)}, point(1, 0), -1},
		{"two points, between", []api.Point{point(0, 0), point(4, 4)}, point(2, 2), 0},
		{"two points, on one", []api.Point{point(0, 0), point(4, 4)}, point(4, 4), 0},
		{"two points, beyond", []api.Point{point(0, 0), point(4, 4)}, point(5, 5), -1},
		{"two points, left", []api.Point{point(0, 0), point(4, 4)}, point(2, 3), -1},
		{"two points, right", []api.Point{point(0, 0), point(4, 4)}, point(2, 1), -1},
		{"two points, level", []api.Point{point(0, 0), point(4, 0)}, point(-1, 0), -1},
		{"two points, level, between", []api.Point{point(0, 0), point(4, 0)}, point(1, 0), 0},
		{"the same point, there", []api.Point{point(2, 3), point(2, 3), point(2, 3)}, point(2, 3), 0},
		{"the same point, elsewhere", []api.Point{point(2, 3), point(2, 3), point(2, 3)}, point(1, 3), -1},
		{"points in a line", []api.Point{point(0, 0), point(6, 6), point(2, 2)}, point(5, 5), 0},
		{"points in a line, beside", []api.Point{point(0, 0), point(6, 6), point(2, 2)}, point(4, 5), -1},
	} {
		t.Run(c.name, func(t *testing.T) { checkWithin(t, c.polygon, c.p, c.want) })
	}
}

// P6 where float64 alone takes what lies beside an edge as on it.
func TestWithinGreatPolygons(t *testing.T) {
	all := []api.Point{point(-m, -m), point(m, -m), point(m, m), point(-m, m)}
	sliver := []api.Point{point(-m, -m), point(m, m-1), point(m, m)}
	wider := []api.Point{point(-m, -m), point(m, m-2), point(m, m)}
	for _, c := range []struct {
		polygon []api.Point
		p       api.Point
		want    int
	}{
		{all, point(0, 0), 1}, {all, point(m, m), 0}, {all, point(-m, m), 0}, {all, point(-m, 1-m), 0},
		{all, point(1-m, m-1), 1}, {all, point(m-1, 1-m), 1},
		{sliver, point(0, 0), 0}, {sliver, point(m-1, m-1), 0}, {sliver, point(1-m, 1-m), 0},
		{sliver, point(m-1, m-2), -1}, {sliver, point(0, -1), -1}, {sliver, point(0, 1), -1},
		{wider, point(m-1, m-2), 1}, {wider, point(0, -1), 0}, {wider, point(1, 0), 1}, {wider, point(-1, -2), -1},
	} {
		checkWithin(t, c.polygon, c.p, c.want)
	}
}

// P6 against fractions: polygons of all kinds, asked at corners, near them, near
// edges and anywhere.
func TestWithinAnywhere(t *testing.T) {
	r := rand.New(rand.NewPCG(6, 6))
	found := make(map[int]int)
	for range 400 {
		for _, polygon := range [][]api.Point{nearLine(r, r.IntN(7)), anywhere(r, r.IntN(9)), anywhere(r, api.MaxPoints)} {
			asked := slices.Concat(polygon, anywhere(r, 3), middles(polygon), nearLine(r, 3))
			for _, p := range asked {
				want := wholeWithin(polygon, p)
				found[want]++
				if got, e := Within(polygon, p); got != want || e != api.OK {
					t.Fatalf("P6: Within(%v, %v) = %d, %d, want %d", polygon, p, got, e, want)
				}
			}
		}
	}
	if min(found[-1], found[0], found[1]) < 500 {
		t.Errorf("not all answers come up: %v", found)
	}
}

// middles lie on edges, or beside them by less than one.
func middles(polygon []api.Point) []api.Point {
	var list []api.Point
	for i, u := range polygon {
		v := polygon[(i+1)%len(polygon)]
		list = append(list, point((u.X+v.X)/2, (u.Y+v.Y)/2))
	}
	return list
}

// P6 at all polygons of three of these points, and each of these points.
func TestWithinCorners(t *testing.T) {
	list := corners()
	for _, a := range list {
		for _, b := range list {
			for _, c := range list {
				for _, p := range list {
					polygon := []api.Point{a, b, c}
					if got, e := Within(polygon, p); got != wholeWithin(polygon, p) || e != api.OK {
						t.Fatalf("P6: Within(%v, %v) = %d, %d", polygon, p, got, e)
					}
				}
			}
		}
	}
}
