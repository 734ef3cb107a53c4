package plumb

import (
	"math/big"
	"math/rand/v2"
	"slices"
	"testing"

	"plumb/api"
)

func mustTriangulate(t *testing.T, list []api.Point) []api.Triangle {
	t.Helper()
	out, e := Triangulate(list...)
	if e != api.OK {
		t.Fatalf("Triangulate(%v): error %d", list, e)
	}
	return out
}

// checkTriangles holds an answer against each of P8's words, in whole numbers,
// and hands it back.
func checkTriangles(t *testing.T, list []api.Point) []api.Triangle {
	t.Helper()
	out := mustTriangulate(t, list)
	for _, fault := range []string{
		faultOfNumbers(list, out), faultOfOrder(out), faultOfShape(list, out),
		faultOfCorners(list, out), faultOfSides(list, out), faultOfArea(list, out),
	} {
		if fault != "" {
			t.Fatalf("P8: %s: Triangulate(%v) = %v", fault, list, out)
		}
	}
	return out
}

func faultOfNumbers(list []api.Point, out []api.Triangle) string {
	for _, x := range out {
		for _, n := range []int{x.A, x.B, x.C} {
			if n < 0 || n >= len(list) {
				return "no number of a point"
			}
			if slices.Index(list, list[n]) != n {
				return "not the first of points that are the same"
			}
		}
		if x.A >= min(x.B, x.C) {
			return "A is not the least number"
		}
	}
	return ""
}

func faultOfOrder(out []api.Triangle) string {
	for i, x := range out[min(1, len(out)):] {
		w := out[i]
		if slices.Compare([]int{w.A, w.B, w.C}, []int{x.A, x.B, x.C}) >= 0 {
			return "twice, or out of order"
		}
	}
	return ""
}

func faultOfShape(list []api.Point, out []api.Triangle) string {
	for _, x := range out {
		a, b, c := list[x.A], list[x.B], list[x.C]
		if wholeSide(a, b, c) != 1 {
			return "C is not to the left"
		}
		for _, p := range list {
			if wholeCircle(a, b, c, p) > 0 {
				return "a point within a circle"
			}
		}
	}
	return ""
}

func faultOfCorners(list []api.Point, out []api.Triangle) string {
	corners := map[api.Point]bool{}
	for _, x := range out {
		corners[list[x.A]], corners[list[x.B]], corners[list[x.C]] = true, true, true
	}
	inLine := len(wholeHull(list)) < 3
	for _, p := range list {
		if corners[p] == inLine {
			return "a point that is a corner in a line, or none elsewhere"
		}
	}
	return ""
}

func faultOfSides(list []api.Point, out []api.Triangle) string {
	sides := map[[2]int]int{}
	for _, x := range out {
		for _, s := range [][2]int{{x.A, x.B}, {x.B, x.C}, {x.C, x.A}} {
			sides[s]++
		}
	}
	for s, times := range sides {
		if times != 1 {
			return "a side of more than one triangle"
		}
		if sides[[2]int{s[1], s[0]}] > 0 {
			continue
		}
		for _, p := range list {
			if wholeSide(list[s[1]], list[s[0]], p) > 0 {
				return "a gap beside a side"
			}
		}
	}
	return ""
}

// faultOfArea asks whether the triangles, together, are as great as the hull.
func faultOfArea(list []api.Point, out []api.Triangle) string {
	sum := new(big.Int)
	for _, x := range out {
		sum.Add(sum, cross(list[x.A], list[x.B], list[x.A], list[x.C]))
	}
	numbers := wholeHull(list)
	for i := 2; i < len(numbers); i++ {
		first, last, next := list[numbers[0]], list[numbers[i-1]], list[numbers[i]]
		sum.Sub(sum, cross(first, last, first, next))
	}
	if sum.Sign() != 0 {
		return "less or more than the hull"
	}
	return ""
}

// P8, where just one answer is right: example 6, and the order of the numbers.
func TestTriangulate(t *testing.T) {
	for _, c := range []struct {
		name string
		list []api.Point
		want []api.Triangle
	}{
		{"none", nil, nil},
		{"none, but a list", []api.Point{}, nil},
		{"one", []api.Point{point(3, 4)}, nil},
		{"two", []api.Point{point(3, 4), point(-3, 9)}, nil},
		{"three in a line", []api.Point{point(0, 0), point(1, 1), point(2, 2)}, nil},
		{"40 in a line", grid(40, 1), nil},
		{"40 in an upright line", grid(1, 40), nil},
		{"in a line of great steps", []api.Point{point(-m, 1-m), point(m-1, m), point(-1, 0), point(0, 1)}, nil},
		{"all the same", make([]api.Point, 40), nil},
		{"two, twice", []api.Point{point(1, 2), point(5, 2), point(1, 2), point(5, 2)}, nil},
		{"counterclockwise", []api.Point{point(0, 0), point(4, 0), point(1, 3)}, []api.Triangle{{A: 0, B: 1, C: 2}}},
		{"clockwise", []api.Point{point(0, 0), point(1, 3), point(4, 0)}, []api.Triangle{{A: 0, B: 2, C: 1}}},
		{"begun elsewhere", []api.Point{point(4, 0), point(1, 3), point(0, 0)}, []api.Triangle{{A: 0, B: 1, C: 2}}},
		{"the same among others", []api.Point{
			point(0, 0), point(0, 0), point(4, 0), point(1, 3), point(4, 0), point(1, 3),
		}, []api.Triangle{{A: 0, B: 2, C: 3}}},
		{"a point in the middle", []api.Point{
			point(0, 0), point(4, 0), point(4, 4), point(0, 4), point(2, 2),
		}, []api.Triangle{{A: 0, B: 1, C: 4}, {A: 0, B: 4, C: 3}, {A: 1, B: 2, C: 4}, {A: 2, B: 3, C: 4}}},
		{"a point on a side of the hull", []api.Point{
			point(0, 0), point(4, 0), point(2, 0), point(2, 5),
		}, []api.Triangle{{A: 0, B: 2, C: 3}, {A: 1, B: 3, C: 2}}},
		{"a flat kite", []api.Point{
			point(0, 0), point(9, 0), point(4, 1), point(5, -1),
		}, []api.Triangle{{A: 0, B: 3, C: 2}, {A: 1, B: 2, C: 3}}},
		{"a high kite", []api.Point{
			point(0, 0), point(2, 0), point(1, 9), point(1, -9),
		}, []api.Triangle{{A: 0, B: 1, C: 2}, {A: 0, B: 3, C: 1}}},
	} {
		t.Run(c.name, func(t *testing.T) {
			if got := checkTriangles(t, c.list); !slices.Equal(got, c.want) {
				t.Errorf("P8: Triangulate(%v) = %v, want %v", c.list, got, c.want)
			}
		})
	}
}

// P8 at coordinates up to MaxCoord, where float64 alone takes what is nearly in
// a line as in it, or what is nearly on a circle as on it.
func TestTriangulateOfGreatCoordinates(t *testing.T) {
	low := []api.Point{point(-m, 1-m), point(m, 1-m)}
	for _, c := range []struct {
		list []api.Point
		want []api.Triangle
	}{
		{[]api.Point{point(0, 0), point(m, m-1), point(m-1, m-2)}, []api.Triangle{{A: 0, B: 2, C: 1}}},
		{[]api.Point{point(0, 0), point(m, m-1), point(m-1, m-1)}, []api.Triangle{{A: 0, B: 1, C: 2}}},
		{slices.Concat(low, []api.Point{point(m, m), point(1-m, m)}), []api.Triangle{{A: 0, B: 1, C: 3}, {A: 1, B: 2, C: 3}}},
		{slices.Concat(low, []api.Point{point(m-1, m), point(-m, m)}), []api.Triangle{{A: 0, B: 1, C: 2}, {A: 0, B: 2, C: 3}}},
		{[]api.Point{point(-m, 0), point(0, -m), point(m, 0), point(1, m)}, []api.Triangle{{A: 0, B: 1, C: 2}, {A: 0, B: 2, C: 3}}},
		{[]api.Point{point(-m, 0), point(0, -m), point(m-1, 0), point(0, m)}, []api.Triangle{{A: 0, B: 1, C: 2}, {A: 0, B: 2, C: 3}}},
		{[]api.Point{point(-m, 0), point(0, -m), point(m, 0), point(0, m-1)}, []api.Triangle{{A: 0, B: 1, C: 3}, {A: 1, B: 2, C: 3}}},
		{[]api.Point{point(-m, -m), point(m, m), point(0, 1), point(1, 0)}, []api.Triangle{{A: 0, B: 3, C: 2}, {A: 1, B: 2, C: 3}}},
	} {
		if got := checkTriangles(t, c.list); !slices.Equal(got, c.want) {
			t.Errorf("P8: Triangulate(%v) = %v, want %v", c.list, got, c.want)
		}
	}
	checkTriangles(t, corners())
}

// onCircle are 108 points on the circle of radius 1105 around (0, 0), each made
// so many times as far off.
func onCircle(times int) []api.Point {
	var list []api.Point
	for x := -1105; x <= 1105; x++ {
		for y := -1105; y <= 1105; y++ {
			if x*x+y*y == 1105*1105 {
				list = append(list, point(x*times, y*times))
			}
		}
	}
	return list
}

// P8 of points on one circle: any triangles between them are right, if they fit
// together.
func TestTriangulateOnACircle(t *testing.T) {
	r := rand.New(rand.NewPCG(8, 8))
	for _, times := range []int{1, 3, 1 << 20, m / 1105} {
		all := onCircle(times)
		for number := 3; number <= api.MaxPoints; number++ {
			r.Shuffle(len(all), func(i, j int) { all[i], all[j] = all[j], all[i] })
			list := slices.Clone(all[:number])
			if got := checkTriangles(t, list); len(got) != number-2 {
				t.Fatalf("P8: Triangulate(%v) = %v", list, got)
			}
			list[number/2] = point(0, 0)
			checkTriangles(t, list)
			list[0].X -= list[0].X / 1105
			list[number-1].Y += 1
			checkTriangles(t, list)
		}
	}
}

// alongSides puts points on all sides of a polygon, so many steps apart.
func alongSides(polygon []api.Point, steps int) []api.Point {
	var list []api.Point
	for i, p := range polygon {
		q := polygon[(i+1)%len(polygon)]
		for k := range steps {
			list = append(list, point(p.X+(q.X-p.X)/steps*k, p.Y+(q.Y-p.Y)/steps*k))
		}
	}
	return list
}

// P8: how many triangles there are is the same in all answers that are right.
func TestNumberOfTriangles(t *testing.T) {
	square := []api.Point{point(-m, -m), point(m, -m), point(m, m), point(-m, m)}
	slanted := []api.Point{point(-m, 8-m), point(m-8, -m), point(16, m-32)}
	for _, c := range []struct {
		name string
		list []api.Point
		want int
	}{
		{"a square", grid(2, 2), 2},
		{"a great square", square, 2},
		{"rows", grid(6, 6), 50},
		{"rows of 40", grid(8, 5), 56},
		{"two rows", grid(20, 2), 38},
		{"two columns", grid(2, 20), 38},
		{"a line and a point", append(grid(39, 1), point(7, 1)), 38},
		{"a line and a point far off", append(grid(39, 1), point(m, -m)), 38},
		{"a line and points on both sides", append(grid(38, 1), point(7, m), point(8, -1)), 74},
		{"an upright line and points on both sides", append(grid(1, 38), point(-1, 7), point(m, 90)), 74},
		{"a cross", slices.Concat(alongSides([]api.Point{point(-16, 0), point(16, 0)}, 8), alongSides([]api.Point{point(0, -16), point(0, 16)}, 8)), 28},
		{"on the sides of a square", alongSides(square, 8), 30},
		{"on the sides of a square, and within", append(alongSides(square, 8), point(1, 1), point(m-1, m-1), point(m-1, 1-m)), 36},
		{"on the sides of a slanted triangle", alongSides(slanted, 8), 22},
		{"on the sides of a slanted triangle, and within", append(alongSides(slanted, 8), point(0, 0), point(3, 5)), 26},
		{"the same in rows", append(grid(4, 5), grid(5, 4)...), 31},
	} {
		t.Run(c.name, func(t *testing.T) {
			for range 3 {
				if got := checkTriangles(t, c.list); len(got) != c.want {
					t.Fatalf("P8: Triangulate(%v) = %v, of %d triangles, want %d", c.list, got, len(got), c.want)
				}
				slices.Reverse(c.list)
				slices.Reverse(c.list[len(c.list)/3:])
			}
		})
	}
}

// P8 at all numbers of points.
func TestTriangulateAnywhere(t *testing.T) {
	r := rand.New(rand.NewPCG(9, 9))
	for number := range api.MaxPoints + 1 {
		for range 3 {
			checkTriangles(t, nearLine(r, number))
			checkTriangles(t, anywhere(r, number))
			checkTriangles(t, slices.Concat(nearLine(r, number/2), anywhere(r, number/2)))
			checkTriangles(t, again(r, anywhere(r, number)))
		}
	}
}

// again draws as many points from the list as it has.
func again(r *rand.Rand, list []api.Point) []api.Point {
	drawn := make([]api.Point, len(list))
	for i := range drawn {
		drawn[i] = list[r.IntN(len(list))]
	}
	return drawn
}

// P8 of every choice of points in a small grid, whatever their order.
func TestTriangulateOfAllChoices(t *testing.T) {
	all := grid(3, 3)
	for choice := range 1 << len(all) {
		var list []api.Point
		for i := range all {
			if n := i * 4 % len(all); choice>>n&1 == 1 {
				list = append(list, all[n])
			}
		}
		checkTriangles(t, list)
	}
}

// P2: what comes out is new memory, spare room too.
func TestTrianglesAreNewMemory(t *testing.T) {
	list := grid(8, 5)
	before := slices.Clone(list)
	first := mustTriangulate(t, list)
	want := slices.Clone(first)
	second := mustTriangulate(t, list)
	for i := range first[:cap(first)] {
		first[:cap(first)][i] = api.Triangle{A: -1}
	}
	if !slices.Equal(second, want) || !slices.Equal(mustTriangulate(t, list), want) || !slices.Equal(list, before) {
		t.Errorf("P2: what came out is not the caller's alone")
	}
}

// P2: the same answer again, where many are right, and many calls at once.
func TestTriangulateManyTimes(t *testing.T) {
	for _, list := range [][]api.Point{
		{point(4, 2), point(2, 4), point(1, 2), point(2, 0), point(3, 4)},
		grid(8, 5), onCircle(m / 1105)[:api.MaxPoints], corners(),
	} {
		want := mustTriangulate(t, list)
		answers := make(chan []api.Triangle)
		const calls = 100
		for range calls {
			go func() {
				out, _ := Triangulate(list...)
				answers <- out
			}()
		}
		for range calls {
			if got := <-answers; !slices.Equal(got, want) {
				t.Errorf("P2: Triangulate = %v, then %v", want, got)
			}
		}
	}
}
