package plumb

import (
	"math/big"
	"math/rand/v2"

	"plumb/api"
)

func whole(n int) *big.Int { return big.NewInt(int64(n)) }

// cross and dot are of the ways from a to b and from c to d.
func cross(a, b, c, d api.Point) *big.Int {
	up := new(big.Int).Mul(whole(b.X-a.X), whole(d.Y-c.Y))
	return up.Sub(up, new(big.Int).Mul(whole(b.Y-a.Y), whole(d.X-c.X)))
}

func dot(a, b, c, d api.Point) *big.Int {
	sum := new(big.Int).Mul(whole(b.X-a.X), whole(d.X-c.X))
	return sum.Add(sum, new(big.Int).Mul(whole(b.Y-a.Y), whole(d.Y-c.Y)))
}

// grid has points in rows of so many.
func grid(wide, high int) []api.Point {
	var list []api.Point
	for i := range wide * high {
		list = append(list, point(i%wide, i/wide))
	}
	return list
}

func upTo(r *rand.Rand, limit int) int { return r.IntN(2*limit+1) - limit }

func within(n int) int { return max(-m, min(m, n)) }

// nearLine puts points on a line of whole steps, then moves some by one. All
// generators here are of a fixed seed.
func nearLine(r *rand.Rand, number int) []api.Point {
	steps := 1 << (1 + r.IntN(52))
	step := point(upTo(r, m/steps), upTo(r, m/steps))
	list := make([]api.Point, number)
	for i := range list {
		n := upTo(r, steps)
		list[i] = point(n*step.X, n*step.Y)
		if r.IntN(3) == 0 {
			list[i] = point(within(list[i].X+upTo(r, 1)), within(list[i].Y+upTo(r, 1)))
		}
	}
	return list
}

// anywhere draws points as far apart as the limit lets them.
func anywhere(r *rand.Rand, number int) []api.Point {
	limits := []int{1, 2, 5, 100, 1 << 27, m}
	limit := limits[r.IntN(len(limits))]
	list := make([]api.Point, number)
	for i := range list {
		list[i] = point(upTo(r, limit), upTo(r, limit))
	}
	return list
}
