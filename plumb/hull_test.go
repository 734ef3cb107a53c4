package plumb

import (
	"math/rand/v2"
	"runtime"
	"slices"
	"testing"
	"time"

	"plumb/api"
)

// wholeHull goes from side to side of the hull: a side is a pair of points with
// nothing to the right of it, and what lies in its line lies between them.
func wholeHull(list []api.Point) []int {
	if len(list) == 0 {
		return nil
	}
	start := 0
	for i, p := range list {
		if q := list[start]; p.X < q.X || p.X == q.X && p.Y < q.Y {
			start = i
		}
	}
	numbers := []int{start}
	for at := nextCorner(list, start); at != start; at = nextCorner(list, at) {
		numbers = append(numbers, at)
	}
	return numbers
}

// nextCorner is the same corner again, if there is no other point.
func nextCorner(list []api.Point, from int) int {
	for to, q := range list {
		if q != list[from] && isSide(list, list[from], q) {
			return to
		}
	}
	return from
}

func isSide(list []api.Point, p, q api.Point) bool {
	for _, x := range list {
		turn := cross(p, q, p, x).Sign()
		if turn < 0 || turn == 0 && dot(x, p, x, q).Sign() > 0 {
			return false
		}
	}
	return true
}

func mustHull(t *testing.T, list []api.Point) []int {
	t.Helper()
	numbers, e := Hull(list...)
	if e != api.OK {
		t.Fatalf("Hull(%v): error %d", list, e)
	}
	return numbers
}

func checkHull(t *testing.T, list []api.Point) {
	t.Helper()
	if got, want := mustHull(t, list), wholeHull(list); !slices.Equal(got, want) {
		t.Fatalf("P7: Hull(%v) = %v, want %v", list, got, want)
	}
}

// P7, example 5, and the edges that P7 names.
func TestHull(t *testing.T) {
	for _, c := range []struct {
		name string
		list []api.Point
		want []int
	}{
		{"some", []api.Point{
			point(2, 1), point(0, 0), point(4, 0), point(0, 0), point(2, 0), point(4, 4), point(0, 4),
		}, []int{1, 2, 5, 6}},
		{"in a line", []api.Point{point(3, 3), point(1, 1), point(2, 2)}, []int{1, 0}},
		{"in an upright line", []api.Point{point(0, 4), point(0, 0), point(0, 2)}, []int{1, 0}},
		{"in a level line", []api.Point{point(4, 7), point(9, 7), point(0, 7), point(2, 7)}, []int{2, 1}},
		{"in a line downwards", []api.Point{point(2, 0), point(1, 1), point(0, 2)}, []int{2, 0}},
		{"none", nil, nil},
		{"none, but a list", []api.Point{}, nil},
		{"one", []api.Point{point(5, 5)}, []int{0}},
		{"one, twice", []api.Point{point(5, 5), point(5, 5)}, []int{0}},
		{"two", []api.Point{point(5, 5), point(4, 9)}, []int{1, 0}},
		{"two, one above the other", []api.Point{point(4, 9), point(4, 5)}, []int{1, 0}},
		{"two, twice", []api.Point{point(5, 5), point(4, 9), point(5, 5), point(4, 9)}, []int{1, 0}},
		{"three, counterclockwise", []api.Point{point(0, 0), point(4, 0), point(0, 4)}, []int{0, 1, 2}},
		{"three, clockwise", []api.Point{point(0, 0), point(0, 4), point(4, 0)}, []int{0, 2, 1}},
		{"three, begun elsewhere", []api.Point{point(4, 0), point(0, 4), point(0, 0)}, []int{2, 0, 1}},
		{"three, each again", []api.Point{
			point(4, 0), point(4, 0), point(0, 4), point(0, 0), point(0, 4), point(0, 0),
		}, []int{3, 0, 2}},
		{"the least X twice", []api.Point{point(0, 9), point(5, 5), point(0, 1), point(0, 5)}, []int{2, 1, 0}},
		{"the greatest X twice", []api.Point{point(9, 9), point(9, 1), point(0, 5), point(9, 5)}, []int{2, 1, 0}},
		{"points on edges", []api.Point{
			point(0, 0), point(2, 0), point(4, 0), point(4, 2), point(4, 4), point(2, 4), point(0, 4), point(0, 2),
		}, []int{0, 2, 4, 6}},
		{"rows", grid(6, 6), []int{0, 5, 35, 30}},
		{"rows of 40", grid(8, 5), []int{0, 7, 39, 32}},
		{"40 in a line", grid(40, 1), []int{0, 39}},
		{"40 in an upright line", grid(1, 40), []int{0, 39}},
		{"40 times the same", make([]api.Point, 40), []int{0}},
	} {
		t.Run(c.name, func(t *testing.T) {
			if got := mustHull(t, c.list); !slices.Equal(got, c.want) {
				t.Errorf("P7: Hull(%v) = %v, want %v", c.list, got, c.want)
			}
			checkHull(t, c.list)
		})
	}
}

// P7 where float64 alone takes what lies beside a side as on it.
func TestHullOfGreatCoordinates(t *testing.T) {
	for _, c := range []struct {
		list []api.Point
		want []int
	}{
		{[]api.Point{point(0, 0), point(m, m-1), point(m-1, m-2)}, []int{0, 2, 1}},
		{[]api.Point{point(0, 0), point(m, m-1), point(m-1, m-1)}, []int{0, 1, 2}},
		{[]api.Point{point(m, m), point(-m, -m), point(0, 0), point(m-1, m-1)}, []int{1, 0}},
		{[]api.Point{
			point(m, m), point(-m, -m), point(0, 0), point(m, m-1), point(m-1, m-1), point(1, 0),
		}, []int{1, 5, 3, 0}},
		{[]api.Point{point(m, m), point(-m, m), point(m, -m), point(-m, -m), point(0, m), point(1-m, 1-m)}, []int{3, 2, 0, 1}},
		{[]api.Point{point(-m, 1-m), point(m-1, m), point(-1, 0), point(0, 1)}, []int{0, 1}},
	} {
		if got := mustHull(t, c.list); !slices.Equal(got, c.want) {
			t.Errorf("P7: Hull(%v) = %v, want %v", c.list, got, c.want)
		}
	}
	checkHull(t, corners())
}

// P7: 40 points that all are corners, in an order that is not theirs.
func TestHullOfCornersOnly(t *testing.T) {
	var list []api.Point
	for i := range api.MaxPoints {
		n := i*7%api.MaxPoints - api.MaxPoints/2
		list = append(list, point(n, n*n))
	}
	if got := mustHull(t, list); len(got) != api.MaxPoints {
		t.Errorf("P7: Hull(%v) = %v", list, got)
	}
	checkHull(t, list)
}

// P7 against a walk from side to side, at all numbers of points; and P10.
func TestHullAnywhere(t *testing.T) {
	r := rand.New(rand.NewPCG(7, 7))
	for number := range api.MaxPoints + 1 {
		for range 10 {
			for _, list := range [][]api.Point{
				nearLine(r, number), anywhere(r, number), slices.Concat(nearLine(r, number/2), anywhere(r, number/2)),
			} {
				checkHull(t, list)
				checkWithinHull(t, list, slices.Concat(list, nearLine(r, 5), anywhere(r, 5), middles(list)))
			}
		}
	}
}

// checkWithinHull holds the hull as a polygon against its sides (P10), and all
// points against the hull.
func checkWithinHull(t *testing.T, list, asked []api.Point) {
	t.Helper()
	var polygon []api.Point
	for _, i := range mustHull(t, list) {
		polygon = append(polygon, list[i])
	}
	if len(polygon) < 3 {
		return
	}
	for i, p := range asked {
		least := 1
		for j, u := range polygon {
			least = min(least, mustSide(t, u, polygon[(j+1)%len(polygon)], p))
		}
		got, e := Within(polygon, p)
		if got != least || e != api.OK {
			t.Fatalf("P10: Within(%v, %v) = %d, %d, but the least side is %d", polygon, p, got, e, least)
		}
		if i < len(list) && got < 0 {
			t.Fatalf("P7: %v lies outside of the hull %v", p, polygon)
		}
	}
}

// P10, in rows, at each place near a hull.
func TestWithinHullOfRows(t *testing.T) {
	for _, list := range [][]api.Point{
		{point(1, 1), point(5, 2), point(4, 5), point(2, 5), point(3, 3)},
		{point(0, 3), point(3, 0), point(6, 3), point(3, 6)},
		{point(0, 0), point(6, 0), point(6, 6), point(0, 6), point(3, 0)},
		{point(0, 0), point(6, 5), point(5, 4)},
	} {
		checkWithinHull(t, list, slices.Concat(list, grid(8, 8)))
	}
	great := []api.Point{point(-m, -m), point(m, m-1), point(1, 0), point(m, m), point(m-1, m-1)}
	checkWithinHull(t, great, slices.Concat(great, corners(), grid(4, 4)))
}

// P7: points that are the same, in all parts of the list.
func TestHullOfSamePoints(t *testing.T) {
	four := []api.Point{point(m, m), point(-m, m), point(m, -m), point(-m, -m), point(0, 0)}
	for start := range len(four) {
		var list []api.Point
		for i := range api.MaxPoints {
			list = append(list, four[(start+i)%len(four)])
		}
		checkHull(t, list)
	}
}

// withRoom lays points before and behind the list, where nothing is to be written.
func withRoom(list []api.Point) (room, inside []api.Point) {
	around := []api.Point{point(9, 9), point(-7, m), point(m, 3)}
	room = slices.Concat(around, list, around)
	return room, room[len(around) : len(around)+len(list)]
}

// P2: what is handed in, and what stands behind it, stays as it was.
func TestNothingHandedInIsWrittenInto(t *testing.T) {
	r := rand.New(rand.NewPCG(2, 2))
	for number := range api.MaxPoints + 3 {
		room, list := withRoom(anywhere(r, number))
		before := slices.Clone(room)
		Within(list, point(1, 2))
		Hull(list...)
		Triangulate(list...)
		if !slices.Equal(before, room) {
			t.Fatalf("P2: %d points, or what stands behind them, were written into", number)
		}
	}
}

// P2: what comes out is new memory, spare room too.
func TestHullIsNewMemory(t *testing.T) {
	list := grid(8, 5)
	before := slices.Clone(list)
	first := mustHull(t, list)
	want := slices.Clone(first)
	second := mustHull(t, list)
	for i := range first[:cap(first)] {
		first[:cap(first)][i] = -1
	}
	if !slices.Equal(second, want) || !slices.Equal(mustHull(t, list), want) || !slices.Equal(list, before) {
		t.Errorf("P2: what came out is not the caller's alone")
	}
}

// P2: the same answer again, however the goroutines run, and many calls at once.
func TestHullManyTimes(t *testing.T) {
	list := anywhere(rand.New(rand.NewPCG(3, 3)), api.MaxPoints)
	want := mustHull(t, list)
	answers := make(chan []int)
	const calls = 200
	for range calls {
		go func() {
			numbers, _ := Hull(list...)
			answers <- numbers
		}()
	}
	for range calls {
		if got := <-answers; !slices.Equal(got, want) {
			t.Errorf("P2: Hull = %v, then %v", want, got)
		}
	}
}

// P1: a call leaves no goroutine behind. The last ones may take a moment to go.
func TestHullEndsItsGoroutines(t *testing.T) {
	before := runtime.NumGoroutine()
	for range 100 {
		Hull(grid(8, 5)...)
		Hull(append(grid(8, 4), point(m+1, 0))...)
	}
	for range 100 {
		if runtime.NumGoroutine() <= before {
			return
		}
		time.Sleep(time.Millisecond)
	}
	t.Errorf("%d goroutines before, %d after", before, runtime.NumGoroutine())
}
