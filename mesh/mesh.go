// Package mesh joins points by triangles whose circles are empty. The
// coordinates must lie within api.MaxCoord both ways.
package mesh

import (
	"cmp"
	"maps"
	"slices"

	"plumb/api"
	"plumb/order"
	"plumb/side"
)

// edge is a directed side of a triangle, from its first end to its second.
type edge [2]api.Point

func (e edge) reverse() edge { return edge{e[1], e[0]} }

func compareEdges(e, f edge) int {
	return cmp.Or(order.Compare(e[0], f[0]), order.Compare(e[1], f[1]))
}

// mesh has, of each directed side of each triangle, the corner across from it,
// which lies to its left. A side is one of just one triangle, so that the sides
// are all there is to know.
type mesh map[edge]api.Point

// Of tells the triangles, by the numbers of their corners in the list. Any
// triangles that fill the hull do for a start; sides are then changed for
// better ones until no circle has a point within.
func Of(list []api.Point) []api.Triangle {
	m := sweep(order.Distinct(list))
	m.settle()
	return m.triangles(order.FirstNumbers(list))
}

// add takes corners that go round counterclockwise.
func (m mesh) add(a, b, c api.Point) {
	m[edge{a, b}] = c
	m[edge{b, c}] = a
	m[edge{c, a}] = b
}

// sweep joins one point after the other to what it sees of the triangles so
// far. In their order, each point lies outside of the hull of those ahead of it,
// so that it sees at least one side.
func sweep(sorted []api.Point) mesh {
	m := mesh{}
	n := inLine(sorted)
	if n == len(sorted) {
		return m
	}
	m.joinLine(sorted[:n], sorted[n])
	for _, p := range sorted[n+1:] {
		for _, e := range m.seenFrom(p) {
			m.add(e[1], e[0], p)
		}
	}
	return m
}

// inLine counts the points up to the first that lies beside the line of those
// ahead of it.
func inLine(sorted []api.Point) int {
	n := min(2, len(sorted))
	for n < len(sorted) && side.Of(sorted[0], sorted[1], sorted[n]) == 0 {
		n++
	}
	return n
}

// joinLine is for points in their order along a line, and p beside it.
func (m mesh) joinLine(line []api.Point, p api.Point) {
	for i, b := range line[1:] {
		a := line[i]
		if side.Of(a, b, p) < 0 {
			a, b = b, a
		}
		m.add(a, b, p)
	}
}

// seenFrom tells the outer sides to whose right p lies; their triangles lie to
// their left. A side with p in its line is not among them, as the triangle would
// be flat. They come in no order: each makes the same triangle whenever it is
// taken.
func (m mesh) seenFrom(p api.Point) []edge {
	var seen []edge
	for e := range m {
		if _, inner := m[e.reverse()]; !inner && side.Of(e[0], e[1], p) < 0 {
			seen = append(seen, e)
		}
	}
	return seen
}

// settle flips sides until none is wrong: then no circle has any point within,
// not only none of the triangles next to it. It ends, as a side that was flipped
// away never comes back. Where several answers are right, which one it comes to
// hangs on what is flipped first, therefore the sides are sorted.
func (m mesh) settle() {
	open := slices.SortedFunc(maps.Keys(m), compareEdges)
	for len(open) > 0 {
		e := open[len(open)-1]
		open = open[:len(open)-1]
		if m.isWrong(e) {
			open = append(open, m.flip(e)...)
		}
	}
}

// isWrong tells whether there are triangles on both sides of e, and the circle
// of one has the other's corner within. (Then so does the circle of the other.)
func (m mesh) isWrong(e edge) bool {
	left, isSide := m[e]
	right, isInner := m[e.reverse()]
	return isSide && isInner && side.OfCircle(e[0], e[1], left, right) > 0
}

// flip puts the other two corners' side in the place of e, and tells the four
// sides around, which may be wrong now.
func (m mesh) flip(e edge) []edge {
	a, b := e[0], e[1]
	left, right := m[e], m[e.reverse()]
	delete(m, e)
	delete(m, e.reverse())
	m.add(a, right, left)
	m.add(b, left, right)
	return []edge{{a, right}, {right, b}, {b, left}, {left, a}}
}

// triangles takes each triangle, which is there from each of its sides, from the
// one that begins at its least number.
func (m mesh) triangles(numbers map[api.Point]int) []api.Triangle {
	var list []api.Triangle
	for e, c := range m {
		t := api.Triangle{A: numbers[e[0]], B: numbers[e[1]], C: numbers[c]}
		if t.A < min(t.B, t.C) {
			list = append(list, t)
		}
	}
	slices.SortFunc(list, compareTriangles)
	return list
}

func compareTriangles(s, t api.Triangle) int {
	return cmp.Or(cmp.Compare(s.A, t.A), cmp.Compare(s.B, t.B), cmp.Compare(s.C, t.C))
}
