package plumb

import (
	"math"
	"math/big"
	"slices"
	"testing"

	"plumb/api"
)

const m = api.MaxCoord

func point(x, y int) api.Point { return api.Point{X: x, Y: y} }

// mustSide and mustCircle are for points that may be.
func mustSide(t *testing.T, a, b, c api.Point) int {
	t.Helper()
	sign, e := Side(a, b, c)
	if e != api.OK {
		t.Fatalf("Side(%v, %v, %v): error %d", a, b, c, e)
	}
	return sign
}

func mustCircle(t *testing.T, a, b, c, d api.Point) int {
	t.Helper()
	sign, e := Circle(a, b, c, d)
	if e != api.OK {
		t.Fatalf("Circle(%v, %v, %v, %v): error %d", a, b, c, d, e)
	}
	return sign
}

// P4, example 1, and points in a line or the same.
func TestSide(t *testing.T) {
	for _, c := range []struct {
		a, b, c api.Point
		want    int
	}{
		{point(0, 0), point(4, 0), point(2, 3), 1},
		{point(0, 0), point(4, 0), point(2, -1), -1},
		{point(0, 0), point(4, 0), point(9, 0), 0},
		{point(0, 0), point(m, m-1), point(m-1, m-2), -1},
		{point(-3, -3), point(0, 0), point(7, 7), 0},
		{point(5, 1), point(5, 9), point(5, 4), 0},
		{point(5, 1), point(5, 9), point(4, 4), 1},
		{point(2, 3), point(2, 3), point(7, 1), 0},
		{point(2, 3), point(7, 1), point(2, 3), 0},
		{point(7, 1), point(2, 3), point(2, 3), 0},
		{point(2, 3), point(2, 3), point(2, 3), 0},
		{point(m, m), point(m, m), point(m, m), 0},
		{point(-m, 1-m), point(m, m), point(0, 0), -1},
		{point(-m, 1-m), point(m-1, m), point(0, 1), 0},
		{point(-m, 1-m), point(m-1, m), point(-1, 0), 0},
		{point(-m, 1-m), point(m-1, m), point(-1, 1), 1},
	} {
		if got := mustSide(t, c.a, c.b, c.c); got != c.want {
			t.Errorf("Side(%v, %v, %v) = %d, want %d", c.a, c.b, c.c, got, c.want)
		}
	}
}

// P4, example 2, and points in a line or the same.
func TestCircle(t *testing.T) {
	for _, c := range []struct {
		a, b, c, d api.Point
		want       int
	}{
		{point(0, 0), point(4, 0), point(0, 4), point(1, 1), 1},
		{point(0, 0), point(4, 0), point(0, 4), point(4, 4), 0},
		{point(0, 0), point(4, 0), point(0, 4), point(5, 5), -1},
		{point(-m, 0), point(m, 0), point(0, m), point(0, -m), 0},
		{point(-m, 0), point(m, 0), point(0, m), point(1, -m), -1},
		{point(0, 0), point(0, 4), point(4, 0), point(1, 1), -1},
		{point(0, 0), point(1, 1), point(3, 3), point(2, 0), -1},
		{point(0, 0), point(1, 1), point(3, 3), point(0, 2), 1},
		{point(0, 0), point(1, 1), point(3, 3), point(9, 9), 0},
		{point(0, 0), point(0, 0), point(3, 3), point(1, 2), 0},
		{point(0, 0), point(4, 0), point(0, 4), point(4, 0), 0},
		{point(6, 6), point(6, 6), point(6, 6), point(6, 6), 0},
		{point(-m, -m), point(m, -m), point(m, m), point(-m, m), 0},
		{point(-m, -m), point(m, -m), point(m, m), point(-m, m-1), 1},
		{point(-m, 1-m), point(m, 1-m), point(m, m), point(-m, m), 0},
		{point(-m, 1-m), point(m, 1-m), point(m-1, m), point(-m, m), -1},
		{point(-m, 1-m), point(m, 1-m), point(m, m), point(1-m, m), 1},
	} {
		if got := mustCircle(t, c.a, c.b, c.c, c.d); got != c.want {
			t.Errorf("Circle(%v, %v, %v, %v) = %d, want %d", c.a, c.b, c.c, c.d, got, c.want)
		}
	}
}

// corners are points near the ends of what may be, and near the middle.
func corners() []api.Point {
	return []api.Point{
		point(0, 0), point(1, 0), point(-1, 1), point(2, 2),
		point(m, m), point(m-1, m-2), point(m-2, m), point(m, 0), point(0, m),
		point(-m, -m), point(1-m, -m), point(-m, 2-m), point(-m, 0), point(1, -m),
		point(-m, m), point(m, 1-m), point(m/2+1, m/2), point(-m/2, m/2-1),
	}
}

func wholeSide(a, b, c api.Point) int {
	left := new(big.Int).Mul(big.NewInt(int64(b.X-a.X)), big.NewInt(int64(c.Y-a.Y)))
	right := new(big.Int).Mul(big.NewInt(int64(b.Y-a.Y)), big.NewInt(int64(c.X-a.X)))
	return left.Cmp(right)
}

// wholeCircle goes through the six products of the determinant one by one.
func wholeCircle(a, b, c, d api.Point) int {
	var rows [3][3]*big.Int
	for i, p := range []api.Point{a, b, c} {
		x, y := big.NewInt(int64(p.X-d.X)), big.NewInt(int64(p.Y-d.Y))
		squares := new(big.Int).Mul(x, x)
		squares.Add(squares, new(big.Int).Mul(y, y))
		rows[i] = [3]*big.Int{x, y, squares}
	}
	sum := new(big.Int)
	for i := range 3 {
		up := new(big.Int).Mul(rows[0][i], rows[1][(i+1)%3])
		down := new(big.Int).Mul(rows[0][i], rows[1][(i+2)%3])
		sum.Add(sum, up.Mul(up, rows[2][(i+2)%3]))
		sum.Sub(sum, down.Mul(down, rows[2][(i+1)%3]))
	}
	return sum.Sign()
}

// P4, and P9's changes of order, at all choices of these points.
func TestSideOfCorners(t *testing.T) {
	list := corners()
	for _, a := range list {
		for _, b := range list {
			for _, c := range list {
				want := wholeSide(a, b, c)
				if got := mustSide(t, a, b, c); got != want {
					t.Fatalf("P4: Side(%v, %v, %v) = %d, want %d", a, b, c, got, want)
				}
				if mustSide(t, b, c, a) != want || mustSide(t, b, a, c) != -want {
					t.Fatalf("P9: Side of %v, %v, %v in other orders", a, b, c)
				}
			}
		}
	}
}

func TestCircleOfCorners(t *testing.T) {
	list := corners()
	for _, a := range list {
		for _, b := range list {
			for _, c := range list {
				for _, d := range list {
					checkCircle(t, a, b, c, d)
				}
			}
		}
	}
}

func checkCircle(t *testing.T, a, b, c, d api.Point) {
	t.Helper()
	want := wholeCircle(a, b, c, d)
	if got := mustCircle(t, a, b, c, d); got != want {
		t.Fatalf("P4: Circle(%v, %v, %v, %v) = %d, want %d", a, b, c, d, got, want)
	}
	if mustCircle(t, b, c, a, d) != want || mustCircle(t, b, a, c, d) != -want || mustCircle(t, a, b, d, c) != -want {
		t.Fatalf("P9: Circle of %v, %v, %v, %v in other orders", a, b, c, d)
	}
}

// A change of all points, and what it makes of the side and of the circle side.
// Both take the other sign if the change turns the plane over.
type change struct {
	name   string
	sign   int
	change func(p api.Point) api.Point
}

func changes() []change {
	return []change{
		{"mirrored in X", -1, func(p api.Point) api.Point { return point(-p.X, p.Y) }},
		{"mirrored in Y", -1, func(p api.Point) api.Point { return point(p.X, -p.Y) }},
		{"mirrored in both", 1, func(p api.Point) api.Point { return point(-p.X, -p.Y) }},
		{"X and Y in each other's place", -1, func(p api.Point) api.Point { return point(p.Y, p.X) }},
		{"moved by one", 1, func(p api.Point) api.Point { return point(p.X+1, p.Y-1) }},
		{"moved by much", 1, func(p api.Point) api.Point { return point(p.X-m/2, p.Y+m/2-1) }},
		{"moved by most", 1, func(p api.Point) api.Point { return point(p.X+m, p.Y-m) }},
	}
}

func mayBe(p api.Point) bool {
	return max(p.X, -p.X, p.Y, -p.Y) <= m
}

// P9: moved, mirrored, and with X and Y in each other's place.
func TestChangesOfAllPoints(t *testing.T) {
	for _, way := range changes() {
		var before, after []api.Point
		for _, p := range corners() {
			if q := way.change(p); mayBe(q) {
				before, after = append(before, p), append(after, q)
			}
		}
		if len(before) < 5 {
			t.Fatalf("%s: only %d points may be", way.name, len(before))
		}
		for i, a := range before {
			for j, b := range before {
				for k, c := range before {
					if mustSide(t, after[i], after[j], after[k]) != way.sign*mustSide(t, a, b, c) {
						t.Fatalf("P9: Side of %v, %v, %v, %s", a, b, c, way.name)
					}
					for l, d := range before {
						if mustCircle(t, after[i], after[j], after[k], after[l]) != way.sign*mustCircle(t, a, b, c, d) {
							t.Fatalf("P9: Circle of %v, %v, %v, %v, %s", a, b, c, d, way.name)
						}
					}
				}
			}
		}
	}
}

func wrongNumbers() []int {
	return []int{m + 1, -m - 1, m + 2, -m - 2, 2 * m, -2 * m, 1 << 62, -1 << 62, math.MaxInt, -math.MaxInt, math.MinInt}
}

// wrongPoints have a wrong X, a wrong Y, or both.
func wrongPoints() []api.Point {
	var list []api.Point
	for _, n := range wrongNumbers() {
		list = append(list, point(n, 0), point(0, n), point(n, n), point(n, -m), point(m, n))
	}
	return list
}

// P3 and P1, example 7: a wrong point in each place.
func TestWrongCoordinate(t *testing.T) {
	for _, wrong := range wrongPoints() {
		for i := range 4 {
			p := []api.Point{point(0, 0), point(1, 1), point(m, 3), point(-m, 5)}
			p[i] = wrong
			if sign, e := Circle(p[0], p[1], p[2], p[3]); sign != 0 || e != api.ErrCoord {
				t.Errorf("Circle(%v) = %d, %d", p, sign, e)
			}
			if sign, e := Side(p[0], p[1], p[2]); i < 3 && (sign != 0 || e != api.ErrCoord) {
				t.Errorf("Side(%v) = %d, %d", p[:3], sign, e)
			}
			if what, e := Meet(p[0], p[1], p[2], p[3]); what != 0 || e != api.ErrCoord {
				t.Errorf("Meet(%v) = %d, %d", p, what, e)
			}
			if what, e := Within(p[:3], p[3]); what != 0 || e != api.ErrCoord {
				t.Errorf("Within(%v) = %d, %d", p, what, e)
			}
			if list, e := Hull(p...); list != nil || e != api.ErrCoord {
				t.Errorf("Hull(%v) = %v, %d", p, list, e)
			}
			if list, e := Triangulate(p...); list != nil || e != api.ErrCoord {
				t.Errorf("Triangulate(%v) = %v, %d", p, list, e)
			}
		}
	}
}

// P1: all points wrong at once is still one error and no panic.
func TestAllCoordinatesWrong(t *testing.T) {
	for _, p := range wrongPoints() {
		for _, q := range wrongPoints() {
			if sign, e := Side(p, q, p); sign != 0 || e != api.ErrCoord {
				t.Fatalf("Side(%v, %v, ..) = %d, %d", p, q, sign, e)
			}
			if sign, e := Circle(p, q, q, p); sign != 0 || e != api.ErrCoord {
				t.Fatalf("Circle(%v, %v, ..) = %d, %d", p, q, sign, e)
			}
		}
	}
}

// P3: the ends themselves may be.
func TestGreatestCoordinates(t *testing.T) {
	ends := []api.Point{point(m, m), point(m, -m), point(-m, m), point(-m, -m)}
	for _, a := range ends {
		for _, b := range ends {
			mustSide(t, a, b, a)
			mustCircle(t, a, b, b, a)
			if _, e := Meet(a, b, b, a); e != api.OK {
				t.Errorf("Meet(%v, %v, ..): error %d", a, b, e)
			}
		}
	}
	if _, e := Within(ends, ends[0]); e != api.OK {
		t.Errorf("Within: error %d", e)
	}
	if _, e := Hull(ends...); e != api.OK {
		t.Errorf("Hull: error %d", e)
	}
	if _, e := Triangulate(ends...); e != api.OK {
		t.Errorf("Triangulate: error %d", e)
	}
}

// somePoints are all good, or all wrong.
func somePoints(number, y int) []api.Point {
	list := make([]api.Point, number)
	for i := range list {
		list[i] = point(i*i, y)
	}
	return list
}

func checkLists(t *testing.T, list []api.Point, p api.Point, want api.Errno) {
	t.Helper()
	before := slices.Clone(list)
	if what, e := Within(list, p); e != want || e != api.OK && what != 0 {
		t.Errorf("Within of %d points = %d, %d, want error %d", len(list), what, e, want)
	}
	if out, e := Hull(list...); e != want || e != api.OK && out != nil {
		t.Errorf("Hull of %d points = %v, %d, want error %d", len(list), out, e, want)
	}
	if out, e := Triangulate(list...); e != want || e != api.OK && out != nil {
		t.Errorf("Triangulate of %d points = %v, %d, want error %d", len(list), out, e, want)
	}
	if !slices.Equal(before, list) {
		t.Errorf("P2: a list of %d points was written into", len(list))
	}
}

// P3, example 7: more than 40 points; and P1: ErrMany comes before ErrCoord.
func TestManyPoints(t *testing.T) {
	for _, number := range []int{0, 1, 2, api.MaxPoints - 1, api.MaxPoints} {
		checkLists(t, somePoints(number, 7), point(1, 1), api.OK)
	}
	for _, number := range []int{api.MaxPoints + 1, api.MaxPoints + 2, 1000} {
		checkLists(t, somePoints(number, 7), point(1, 1), api.ErrMany)
		checkLists(t, somePoints(number, m+1), point(1, m+1), api.ErrMany)
	}
	checkLists(t, somePoints(api.MaxPoints, m+1), point(1, 1), api.ErrCoord)
	checkLists(t, nil, point(1, 1), api.OK)
}

func TestWrongPointBesideManyPoints(t *testing.T) {
	if what, e := Within(somePoints(api.MaxPoints+1, 7), point(m+1, 0)); what != 0 || e != api.ErrMany {
		t.Errorf("Within = %d, %d", what, e)
	}
	if what, e := Within(nil, point(m+1, 0)); what != 0 || e != api.ErrCoord {
		t.Errorf("Within = %d, %d", what, e)
	}
}

// P3: one wrong point at each place of a full list.
func TestWrongPointInFullList(t *testing.T) {
	for i := range api.MaxPoints {
		for _, wrong := range []api.Point{point(m+1, 0), point(0, -m-1)} {
			list := somePoints(api.MaxPoints, 7)
			list[i] = wrong
			checkLists(t, list, point(1, 1), api.ErrCoord)
		}
	}
}
