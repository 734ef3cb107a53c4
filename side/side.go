// Package side tells the side and the circle side of points, never wrong: by
// rounded numbers where these are sure, else by numbers that are not rounded.
// The coordinates must lie within api.MaxCoord both ways.
package side

import (
	"math"

	"plumb/api"
	"plumb/expansion"
)

// Of tells the side of c, seen from a to b.
func Of(a, b, c api.Point) int {
	if sign, sure := roughSide(a, b, c); sure {
		return sign
	}
	return exactSide(a, b, c)
}

// OfCircle tells the circle side of d, for the circle through a, b and c.
func OfCircle(a, b, c, d api.Point) int {
	if sign, sure := roughCircle(a, b, c, d); sure {
		return sign
	}
	return exactCircle(a, b, c, d)
}

// signBeyond tells the sign of a rounded value, if it is greater than all that
// rounding could make up.
func signBeyond(value, slack float64) (sign int, sure bool) {
	switch {
	case value > slack:
		return 1, true
	case value < -slack:
		return -1, true
	}
	return 0, false
}

// roughSide needs a slack of 4 roundings of 1 part in 2 to the power 53 each: a
// product has gone through three (two differences and its own), the last
// difference through one more. The slack is twice that, which makes up for the
// rounding of the slack itself, and is a power of two, which adds none.
func roughSide(a, b, c api.Point) (sign int, sure bool) {
	const slack = 0x1p-50
	bx, by := roughApart(b, a)
	cx, cy := roughApart(c, a)
	left, right := float64(bx*cy), float64(by*cx)
	return signBeyond(left-right, slack*(math.Abs(left)+math.Abs(right)))
}

func exactSide(a, b, c api.Point) int {
	bx, by := exactApart(b, a)
	cx, cy := exactApart(c, a)
	return bx.Times(cy).Minus(by.Times(cx)).Sign()
}

// roughRow is a row of the determinant, rounded.
type roughRow struct {
	x, y, squares float64
}

func newRoughRow(p, d api.Point) roughRow {
	x, y := roughApart(p, d)
	return roughRow{x: x, y: y, squares: float64(x*x) + float64(y*y)}
}

// roughCircle needs a slack of 11 roundings: the squares and the small
// determinant have gone through four each, their product through one more, and
// the sum of three such through two more. The slack is 16 of them.
func roughCircle(a, b, c, d api.Point) (sign int, sure bool) {
	const slack = 0x1p-49
	u, v, w := newRoughRow(a, d), newRoughRow(b, d), newRoughRow(c, d)
	ofU, sizeU := roughTerm(u, v, w)
	ofV, sizeV := roughTerm(v, w, u)
	ofW, sizeW := roughTerm(w, u, v)
	return signBeyond(ofU+ofV+ofW, slack*(sizeU+sizeV+sizeW))
}

// roughTerm is what the squares of u bring into the determinant, and how great
// that could be if nothing in it cancelled out.
func roughTerm(u, v, w roughRow) (value, size float64) {
	left, right := float64(v.x*w.y), float64(v.y*w.x)
	value = float64(u.squares * (left - right))
	size = float64(u.squares * (math.Abs(left) + math.Abs(right)))
	return value, size
}

// exactRow is a row of the determinant, not rounded.
type exactRow struct {
	x, y, squares expansion.Expansion
}

func newExactRow(p, d api.Point) exactRow {
	x, y := exactApart(p, d)
	return exactRow{x: x, y: y, squares: x.Times(x).Plus(y.Times(y))}
}

func exactCircle(a, b, c, d api.Point) int {
	u, v, w := newExactRow(a, d), newExactRow(b, d), newExactRow(c, d)
	return exactTerm(u, v, w).Plus(exactTerm(v, w, u)).Plus(exactTerm(w, u, v)).Sign()
}

func exactTerm(u, v, w exactRow) expansion.Expansion {
	return u.squares.Times(v.x.Times(w.y).Minus(v.y.Times(w.x)))
}

// roughApart tells how far p is from the point named, along X and along Y. The
// coordinates are float64s; their differences may be one bit too long for it.
func roughApart(p, from api.Point) (x, y float64) {
	return float64(p.X) - float64(from.X), float64(p.Y) - float64(from.Y)
}

func exactApart(p, from api.Point) (x, y expansion.Expansion) {
	x = expansion.Difference(float64(p.X), float64(from.X))
	y = expansion.Difference(float64(p.Y), float64(from.Y))
	return x, y
}
