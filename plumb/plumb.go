// Package plumb: which side a point lies on, never wrong, and what can be built on that: see DOC.md.
package plumb

import (
	"plumb/api"
	"plumb/hull"
	"plumb/inside"
	"plumb/mesh"
	"plumb/segment"
	"plumb/side"
)

// Side tells on which side of a line a point lies (P4).
func Side(a, b, c api.Point) (int, api.Errno) {
	if e := checkPoints(a, b, c); e != api.OK {
		return 0, e
	}
	return side.Of(a, b, c), api.OK
}

// Circle tells whether a point lies within a circle (P4).
func Circle(a, b, c, d api.Point) (int, api.Errno) {
	if e := checkPoints(a, b, c, d); e != api.OK {
		return 0, e
	}
	return side.OfCircle(a, b, c, d), api.OK
}

// Meet tells what two segments have in common (P5).
func Meet(a, b, c, d api.Point) (int, api.Errno) {
	if e := checkPoints(a, b, c, d); e != api.OK {
		return 0, e
	}
	return segment.Meet(segment.Segment{A: a, B: b}, segment.Segment{A: c, B: d}), api.OK
}

// Within tells whether a point lies within a polygon (P6).
func Within(polygon []api.Point, p api.Point) (int, api.Errno) {
	if e := checkList(polygon); e != api.OK {
		return 0, e
	}
	if e := checkPoints(p); e != api.OK {
		return 0, e
	}
	return inside.Of(polygon, p), api.OK
}

// Hull tells the corners of the smallest convex polygon (P7).
func Hull(points ...api.Point) ([]int, api.Errno) {
	if e := checkList(points); e != api.OK {
		return nil, e
	}
	return hull.Of(points), api.OK
}

// Triangulate tells triangles whose circles are empty (P8).
func Triangulate(points ...api.Point) ([]api.Triangle, api.Errno) {
	if e := checkList(points); e != api.OK {
		return nil, e
	}
	return mesh.Of(points), api.OK
}
