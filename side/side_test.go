package side

import (
	"math/big"
	"math/rand/v2"
	"testing"

	"plumb/api"
)

const m = api.MaxCoord

func point(x, y int) api.Point { return api.Point{X: x, Y: y} }

func whole(n int) *big.Int { return big.NewInt(int64(n)) }

func times(a, b *big.Int) *big.Int { return new(big.Int).Mul(a, b) }

func plus(a, b *big.Int) *big.Int { return new(big.Int).Add(a, b) }

func minus(a, b *big.Int) *big.Int { return new(big.Int).Sub(a, b) }

// trueSide is the formula of the document's words, in whole numbers.
func trueSide(a, b, c api.Point) int {
	left := times(whole(b.X-a.X), whole(c.Y-a.Y))
	right := times(whole(b.Y-a.Y), whole(c.X-a.X))
	return minus(left, right).Sign()
}

// trueCircle goes along the first row of the determinant; the program goes down
// the last column.
func trueCircle(a, b, c, d api.Point) int {
	var rows [3][3]*big.Int
	for i, p := range []api.Point{a, b, c} {
		x, y := whole(p.X-d.X), whole(p.Y-d.Y)
		rows[i] = [3]*big.Int{x, y, plus(times(x, x), times(y, y))}
	}
	sum := new(big.Int)
	for i, head := range rows[0] {
		j, k := (i+1)%3, (i+2)%3
		small := minus(times(rows[1][j], rows[2][k]), times(rows[1][k], rows[2][j]))
		sum = plus(sum, times(head, small))
	}
	return sum.Sign()
}

func allowed(points []api.Point) bool {
	for _, p := range points {
		if max(p.X, -p.X, p.Y, -p.Y) > m {
			return false
		}
	}
	return true
}

func upTo(r *rand.Rand, limit int) int { return r.IntN(2*limit+1) - limit }

func nudged(r *rand.Rand, p api.Point) api.Point {
	return point(p.X+upTo(r, 1), p.Y+upTo(r, 1))
}

// limits run from small coordinates to the greatest, where rounding bites.
func limits() []int { return []int{1, 3, 10, 1000, 1 << 26, 1 << 27, 1 << 40, m / 2, m - 1, m} }

func anywhere(r *rand.Rand, number int) []api.Point {
	limit := limits()[r.IntN(len(limits()))]
	points := make([]api.Point, number)
	for i := range points {
		points[i] = point(upTo(r, limit), upTo(r, limit))
	}
	return points
}

// nearLine puts points on a line of whole steps, then moves some by one at most.
func nearLine(r *rand.Rand, number int) []api.Point {
	steps := 1 << (1 + r.IntN(52))
	step := point(upTo(r, m/steps), upTo(r, m/steps))
	start := anywhere(r, 1)[0]
	points := make([]api.Point, number)
	for i := range points {
		k := upTo(r, steps)
		points[i] = point(start.X+k*step.X, start.Y+k*step.Y)
		if r.IntN(3) == 0 {
			points[i] = nudged(r, points[i])
		}
	}
	return points
}

// nearCircle puts points on a circle, by swapping and mirroring one of them
// round a middle, then moves at most one of them by one.
func nearCircle(r *rand.Rand) []api.Point {
	limit := limits()[r.IntN(len(limits()))]
	x, y := upTo(r, limit), upTo(r, limit)
	middle := point(upTo(r, m-limit), upTo(r, m-limit))
	points := make([]api.Point, 4)
	for i := range points {
		if r.IntN(2) == 0 {
			x, y = y, x
		}
		if r.IntN(2) == 0 {
			x = -x
		}
		if r.IntN(2) == 0 {
			y = -y
		}
		points[i] = point(middle.X+x, middle.Y+y)
	}
	if i := r.IntN(8); i < 4 {
		points[i] = nudged(r, points[i])
	}
	return points
}

func TestSideAgainstWholeNumbers(t *testing.T) {
	r := rand.New(rand.NewPCG(3, 3))
	var seen [3]int
	unsure := 0
	for n := range 60000 {
		points := anywhere(r, 3)
		if n%3 > 0 {
			points = nearLine(r, 3)
		}
		if !allowed(points) {
			continue
		}
		a, b, c := points[0], points[1], points[2]
		want := trueSide(a, b, c)
		seen[want+1]++
		if got := Of(a, b, c); got != want {
			t.Fatalf("Of(%v) = %d, want %d", points, got, want)
		}
		if got := exactSide(a, b, c); got != want {
			t.Fatalf("exactSide(%v) = %d, want %d", points, got, want)
		}
		got, sure := roughSide(a, b, c)
		if sure && got != want {
			t.Fatalf("roughSide(%v) is sure of %d, want %d", points, got, want)
		}
		if !sure && want != 0 {
			unsure++
		}
	}
	if min(seen[0], seen[1], seen[2], unsure) < 500 {
		t.Fatalf("the points are too tame: %v, unsure %d", seen, unsure)
	}
}

func TestCircleAgainstWholeNumbers(t *testing.T) {
	r := rand.New(rand.NewPCG(4, 4))
	var seen [3]int
	unsure := 0
	for n := range 60000 {
		points := nearCircle(r)
		switch n % 4 {
		case 0:
			points = anywhere(r, 4)
		case 1:
			points = nearLine(r, 4)
		}
		if !allowed(points) {
			continue
		}
		a, b, c, d := points[0], points[1], points[2], points[3]
		want := trueCircle(a, b, c, d)
		seen[want+1]++
		if got := OfCircle(a, b, c, d); got != want {
			t.Fatalf("OfCircle(%v) = %d, want %d", points, got, want)
		}
		if got := exactCircle(a, b, c, d); got != want {
			t.Fatalf("exactCircle(%v) = %d, want %d", points, got, want)
		}
		got, sure := roughCircle(a, b, c, d)
		if sure && got != want {
			t.Fatalf("roughCircle(%v) is sure of %d, want %d", points, got, want)
		}
		if !sure && want != 0 {
			unsure++
		}
	}
	if min(seen[0], seen[1], seen[2], unsure) < 500 {
		t.Fatalf("the points are too tame: %v, unsure %d", seen, unsure)
	}
}

// The rounded way must settle what is plain, or it would be of no use.
func TestRoughIsSureOfPlainPoints(t *testing.T) {
	if sign, sure := roughSide(point(0, 0), point(4, 0), point(2, 3)); sign != 1 || !sure {
		t.Errorf("roughSide = %d, %t", sign, sure)
	}
	if sign, sure := roughSide(point(-m, -m), point(m, m), point(m, -m)); sign != -1 || !sure {
		t.Errorf("roughSide = %d, %t", sign, sure)
	}
	if sign, sure := roughCircle(point(0, 0), point(4, 0), point(0, 4), point(1, 1)); sign != 1 || !sure {
		t.Errorf("roughCircle = %d, %t", sign, sure)
	}
	if sign, sure := roughCircle(point(-m, 0), point(m, 0), point(0, m), point(m, m)); sign != -1 || !sure {
		t.Errorf("roughCircle = %d, %t", sign, sure)
	}
}

// In float64 alone both products are the same here.
func TestRoughIsNotSureWhereRoundingMatters(t *testing.T) {
	if sign, sure := roughSide(point(0, 0), point(m, m-1), point(m-1, m-2)); sign != 0 || sure {
		t.Errorf("roughSide = %d, %t", sign, sure)
	}
	if sign, sure := roughCircle(point(-m, 0), point(m, 0), point(0, m), point(1, -m)); sign != 0 || sure {
		t.Errorf("roughCircle = %d, %t", sign, sure)
	}
}

func TestSignBeyond(t *testing.T) {
	for _, c := range []struct {
		value, slack float64
		sign         int
		sure         bool
	}{
		{3, 2, 1, true}, {-3, 2, -1, true}, {2, 2, 0, false}, {-2, 2, 0, false}, {0, 0, 0, false}, {1, 0, 1, true},
	} {
		if sign, sure := signBeyond(c.value, c.slack); sign != c.sign || sure != c.sure {
			t.Errorf("signBeyond(%v, %v) = %d, %t", c.value, c.slack, sign, sure)
		}
	}
}
