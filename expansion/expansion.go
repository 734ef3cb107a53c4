// Package expansion reckons with whole numbers as sums of float64s, without any rounding.
package expansion

import "math"

// Expansion is the number that its parts come to, without rounding. The parts
// are not 0, no two of them share a binary place, and the lesser ones come
// first; so the last one is greater than all others together. Nothing in it
// is the number 0.
//
// It holds for whole numbers below 2 to the power 1000: there no sum and no
// product runs over, and what a rounding takes away is again a float64.
type Expansion []float64

// Difference is a - b.
func Difference(a, b float64) Expansion {
	return make(Expansion, 0, 2).grow(-b).grow(a)
}

// Plus is e + f, in new memory.
func (e Expansion) Plus(f Expansion) Expansion {
	sum := e.copyWithRoom(len(f))
	for _, part := range f {
		sum = sum.grow(part)
	}
	return sum
}

// Minus is e - f, in new memory.
func (e Expansion) Minus(f Expansion) Expansion {
	rest := e.copyWithRoom(len(f))
	for _, part := range f {
		rest = rest.grow(-part)
	}
	return rest
}

// Times is e * f, in new memory.
func (e Expansion) Times(f Expansion) Expansion {
	product := make(Expansion, 0, 2*len(e)*len(f))
	for _, one := range e {
		for _, other := range f {
			rounded, lost := splitProduct(one, other)
			product = product.grow(lost).grow(rounded)
		}
	}
	return product
}

// Sign is -1, 0 or 1.
func (e Expansion) Sign() int {
	switch {
	case len(e) == 0:
		return 0
	case e[len(e)-1] < 0:
		return -1
	}
	return 1
}

func (e Expansion) copyWithRoom(spare int) Expansion {
	return append(make(Expansion, 0, len(e)+spare), e...)
}

// grow adds one float64. It writes into the memory of e, so only the one who
// made e may call it: what is put down never overtakes what is still to be read,
// as each part that is read leaves at most one behind.
func (e Expansion) grow(carried float64) Expansion {
	grown := e[:0]
	for _, part := range e {
		var lost float64
		carried, lost = splitSum(carried, part)
		if lost != 0 {
			grown = append(grown, lost)
		}
	}
	if carried != 0 {
		grown = append(grown, carried)
	}
	return grown
}

// splitSum splits a + b into the rounded sum and what the rounding took away,
// whichever of the two is the greater.
func splitSum(a, b float64) (rounded, lost float64) {
	rounded = a + b
	ofB := rounded - a
	ofA := rounded - ofB
	return rounded, (a - ofA) + (b - ofB)
}

// splitProduct splits a * b into the rounded product and what the rounding took
// away. The conversion keeps a compiler from leaving the rounding out.
func splitProduct(a, b float64) (rounded, lost float64) {
	rounded = float64(a * b)
	return rounded, math.FMA(a, b, -rounded)
}
