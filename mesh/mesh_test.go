package mesh

import (
	"cmp"
	"maps"
	"slices"
	"testing"

	"plumb/api"
	"plumb/side"
)

func point(x, y int) api.Point { return api.Point{X: x, Y: y} }

// grid has points in rows of so many, in the order of package order.
func grid(wide, high int) []api.Point {
	var list []api.Point
	for i := range wide * high {
		list = append(list, point(i/high, i%high))
	}
	return list
}

// fan goes round a circle's points from the first of them.
func fan(list []api.Point) mesh {
	m := mesh{}
	for i := 2; i < len(list); i++ {
		m.add(list[0], list[i-1], list[i])
	}
	return m
}

// checkFills looks for triangles that are flat or known by some of their sides
// alone, and for outer sides with a point beyond them.
func checkFills(t *testing.T, m mesh, list []api.Point) {
	t.Helper()
	corners := map[api.Point]int{}
	for e, c := range m {
		corners[c]++
		if m[edge{e[1], c}] != e[0] || m[edge{c, e[0]}] != e[1] {
			t.Fatalf("%v has %v across from it, but not the other way round", e, c)
		}
		if side.Of(e[0], e[1], c) != 1 {
			t.Fatalf("%v has %v across from it, which is not to its left", e, c)
		}
		if _, inner := m[e.reverse()]; inner {
			continue
		}
		for _, p := range list {
			if side.Of(e[0], e[1], p) < 0 {
				t.Fatalf("%v lies beyond %v", p, e)
			}
		}
	}
	if len(m) > 0 && len(corners) != len(list) {
		t.Fatalf("%d points have %d corners among them", len(list), len(corners))
	}
}

func TestInLine(t *testing.T) {
	for _, c := range []struct {
		list []api.Point
		want int
	}{
		{nil, 0},
		{grid(1, 1), 1},
		{grid(1, 2), 2},
		{grid(1, 7), 7},
		{grid(7, 1), 7},
		{grid(2, 7), 7},
		{[]api.Point{point(0, 0), point(1, 5), point(2, 0)}, 2},
		{[]api.Point{point(0, 0), point(1, 1), point(2, 2), point(2, 3), point(3, 3)}, 3},
	} {
		if got := inLine(c.list); got != c.want {
			t.Errorf("inLine(%v) = %d, want %d", c.list, got, c.want)
		}
	}
}

func TestSweep(t *testing.T) {
	const m = api.MaxCoord
	for _, c := range []struct {
		list      []api.Point
		triangles int
	}{
		{nil, 0},
		{grid(1, 1), 0},
		{grid(1, 9), 0},
		{grid(9, 1), 0},
		{grid(2, 2), 2},
		{grid(2, 9), 16},
		{grid(9, 2), 16},
		{grid(5, 8), 56},
		{[]api.Point{point(0, 0), point(1, 0), point(2, 0), point(2, 1)}, 2},
		{[]api.Point{point(0, 0), point(1, 0), point(2, 0), point(3, -1), point(4, 0)}, 3},
		{[]api.Point{point(0, 0), point(1, 1), point(1, 2), point(2, 2), point(3, 3)}, 3},
		{[]api.Point{point(-m, -m), point(0, 0), point(m, m-1), point(m, m)}, 2},
	} {
		got := sweep(c.list)
		if len(got) != 3*c.triangles {
			t.Errorf("sweep(%v) has %d sides, want %d", c.list, len(got), 3*c.triangles)
		}
		checkFills(t, got, c.list)
	}
}

// The sides in whose line the point lies are not seen, nor are those behind.
func TestSeenFrom(t *testing.T) {
	square := sweep(grid(3, 3))
	right := []edge{{point(2, 0), point(2, 1)}, {point(2, 1), point(2, 2)}}
	up := []edge{{point(1, 2), point(0, 2)}, {point(2, 2), point(1, 2)}}
	for _, c := range []struct {
		p    api.Point
		want []edge
	}{
		{point(3, 1), right},
		{point(3, 2), right},
		{point(3, 3), slices.Concat(right, up)},
		{point(1, 1), nil},
		{point(2, 1), nil},
	} {
		got := square.seenFrom(c.p)
		slices.SortFunc(got, compareEdges)
		slices.SortFunc(c.want, compareEdges)
		if !slices.Equal(got, c.want) {
			t.Errorf("from %v are seen %v, want %v", c.p, got, c.want)
		}
	}
}

func TestFlip(t *testing.T) {
	a, b, left, right := point(0, 0), point(9, 0), point(4, 1), point(5, -1)
	m := mesh{}
	m.add(a, b, left)
	m.add(b, a, right)
	e := edge{a, b}
	if !m.isWrong(e) || !m.isWrong(e.reverse()) {
		t.Errorf("%v is not wrong", e)
	}
	around := m.flip(e)
	want := mesh{}
	want.add(left, right, b)
	want.add(right, left, a)
	if !maps.Equal(m, want) {
		t.Errorf("flipped: %v, want %v", m, want)
	}
	for f := range m {
		if m.isWrong(f) {
			t.Errorf("%v is wrong after the flip", f)
		}
		if _, inner := m[f.reverse()]; !inner && !slices.Contains(around, f) {
			t.Errorf("%v is not told among %v", f, around)
		}
	}
	if m.isWrong(e) || m.isWrong(e.reverse()) {
		t.Errorf("%v is wrong, but was flipped away", e)
	}
}

// On one circle no side is wrong, so that what is there stays.
func TestSettleOnACircle(t *testing.T) {
	list := []api.Point{
		point(5, 0), point(4, 3), point(3, 4), point(0, 5), point(-3, 4), point(-5, 0), point(-3, -4), point(4, -3),
	}
	m := fan(list)
	before := maps.Clone(m)
	m.settle()
	if !maps.Equal(m, before) {
		t.Errorf("settle made %v of %v", m, before)
	}
}

// From a fan over a bow, nearly all sides have to be flipped, some more than
// once in a row.
func TestSettleFromFarOff(t *testing.T) {
	for number := 3; number <= api.MaxPoints; number++ {
		var list []api.Point
		for i := range number {
			list = append(list, point(i-number/3, (i-number/3)*(i-number/3)))
		}
		m := fan(list)
		m.settle()
		if len(m) != 3*(number-2) {
			t.Fatalf("%d points: %d sides", number, len(m))
		}
		checkFills(t, m, list)
		checkEmpty(t, m, list)
	}
}

func checkEmpty(t *testing.T, m mesh, list []api.Point) {
	t.Helper()
	for e, c := range m {
		for _, p := range list {
			if side.OfCircle(e[0], e[1], c, p) > 0 {
				t.Fatalf("%v lies within the circle of %v and %v", p, e, c)
			}
		}
	}
}

// Here the sides can be flipped in several orders, to several answers that are
// all right; the same one comes each time.
func TestSweepAndSettleAgain(t *testing.T) {
	for _, list := range [][]api.Point{
		{point(1, 2), point(2, 0), point(2, 4), point(3, 4), point(4, 2)},
		{point(0, 2), point(1, 0), point(1, 4), point(2, 0), point(3, 4), point(4, 2), point(4, 5)},
		grid(5, 8),
	} {
		want := sweep(list)
		want.settle()
		checkFills(t, want, list)
		checkEmpty(t, want, list)
		for range 100 {
			got := sweep(list)
			got.settle()
			if !maps.Equal(got, want) {
				t.Fatalf("sweep and settle made %v, then %v", want, got)
			}
		}
	}
}

func TestTriangles(t *testing.T) {
	a, b, c, d := point(0, 0), point(4, 0), point(4, 4), point(0, 4)
	numbers := map[api.Point]int{a: 7, b: 1, c: 3, d: 2}
	m := mesh{}
	m.add(a, b, c)
	m.add(a, c, d)
	want := []api.Triangle{{A: 1, B: 3, C: 7}, {A: 2, B: 7, C: 3}}
	for range 100 {
		if got := m.triangles(numbers); !slices.Equal(got, want) {
			t.Fatalf("triangles = %v, want %v", got, want)
		}
	}
}

func TestCompareTriangles(t *testing.T) {
	list := []api.Triangle{{A: 0, B: 1, C: 9}, {A: 0, B: 2, C: 1}, {A: 0, B: 2, C: 3}, {A: 1, B: 2, C: 3}, {A: 1, B: 3, C: 2}}
	for i, x := range list {
		for j, y := range list {
			if got := cmp.Compare(compareTriangles(x, y), 0); got != cmp.Compare(i, j) {
				t.Errorf("compareTriangles(%v, %v) has the sign %d", x, y, got)
			}
		}
	}
}

func TestOf(t *testing.T) {
	list := []api.Point{point(9, 9), point(0, 4), point(4, 0), point(0, 4), point(0, 0)}
	want := []api.Triangle{{A: 0, B: 1, C: 2}, {A: 1, B: 4, C: 2}}
	if got := Of(list); !slices.Equal(got, want) {
		t.Errorf("Of(%v) = %v, want %v", list, got, want)
	}
	kite := []api.Point{point(0, 0), point(2, 9), point(2, -9), point(4, 0)}
	want = []api.Triangle{{A: 0, B: 2, C: 3}, {A: 0, B: 3, C: 1}}
	if got := Of(kite); !slices.Equal(got, want) {
		t.Errorf("Of(%v) = %v, want %v", kite, got, want)
	}
	if got := Of(nil); len(got) != 0 {
		t.Errorf("Of no points = %v", got)
	}
}
