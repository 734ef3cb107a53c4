package expansion

import (
	"math"
	"math/big"
	"math/bits"
	"math/rand/v2"
	"slices"
	"testing"
)

const m = 1 << 53

// value is what the expansion comes to, by whole numbers that are not rounded.
func value(t *testing.T, e Expansion) *big.Int {
	t.Helper()
	sum := new(big.Int)
	for _, part := range e {
		whole, accuracy := new(big.Float).SetFloat64(part).Int(nil)
		if accuracy != big.Exact {
			t.Fatalf("%v has a part that is not whole", e)
		}
		sum.Add(sum, whole)
	}
	return sum
}

// lowestPlace is the value of the last binary place of a part.
func lowestPlace(part float64) float64 {
	fraction, exponent := math.Frexp(math.Abs(part))
	digits := uint64(math.Ldexp(fraction, 53))
	return math.Ldexp(1, exponent-53+bits.TrailingZeros64(digits))
}

// checkShape holds the parts against what the type promises of them.
func checkShape(t *testing.T, e Expansion) {
	t.Helper()
	for i, part := range e {
		if part == 0 {
			t.Fatalf("%v has a part that is 0", e)
		}
		if i > 0 && math.Abs(e[i-1]) >= lowestPlace(part) {
			t.Fatalf("%v: parts %d and %d are out of order or overlap", e, i-1, i)
		}
	}
}

func checkValue(t *testing.T, what string, e Expansion, want *big.Int) {
	t.Helper()
	checkShape(t, e)
	if got := value(t, e); got.Cmp(want) != 0 {
		t.Fatalf("%s = %v, that is %v, want %v", what, e, got, want)
	}
	if e.Sign() != want.Sign() {
		t.Fatalf("%s: sign %d, want %d", what, e.Sign(), want.Sign())
	}
}

// coordinates lie at the edges, near them, and anywhere.
func coordinates(r *rand.Rand) []float64 {
	list := []float64{0, 1, -1, 2, 3, m, -m, m - 1, 1 - m, m / 2, m/2 + 1, -m/2 - 1}
	for range 20 {
		list = append(list, float64(r.Int64N(2*m+1)-m))
	}
	return list
}

func TestLowestPlace(t *testing.T) {
	for part, want := range map[float64]float64{1: 1, 12: 4, -12: 4, m: m, m - 1: 1, 3 * m: m} {
		if got := lowestPlace(part); got != want {
			t.Errorf("lowestPlace(%v) = %v, want %v", part, got, want)
		}
	}
}

func TestDifference(t *testing.T) {
	list := coordinates(rand.New(rand.NewPCG(1, 1)))
	for _, a := range list {
		for _, b := range list {
			checkValue(t, "Difference", Difference(a, b), big.NewInt(int64(a)-int64(b)))
		}
	}
	if e := Difference(m, -m+1); !slices.Equal(e, Expansion{-1, 2 * m}) {
		t.Errorf("Difference(M, -M+1) = %v, want the lesser part first", e)
	}
}

func TestSplitSum(t *testing.T) {
	for _, c := range []struct{ a, b, rounded, lost float64 }{
		{1, 2, 3, 0}, {m, 1, m, 1}, {1, m, m, 1}, {-1, -m, -m, -1}, {m, 3, m + 4, -1}, {3, m, m + 4, -1}, {m, -m, 0, 0},
	} {
		if rounded, lost := splitSum(c.a, c.b); rounded != c.rounded || lost != c.lost {
			t.Errorf("splitSum(%v, %v) = %v, %v", c.a, c.b, rounded, lost)
		}
	}
}

func TestSplitProduct(t *testing.T) {
	for _, c := range []struct{ a, b, rounded, lost float64 }{
		{3, 4, 12, 0}, {m, m, m * m, 0}, {m - 1, m - 1, m * (m - 2), 1}, {1 - m, m - 1, -m * (m - 2), -1}, {0, m, 0, 0},
	} {
		if rounded, lost := splitProduct(c.a, c.b); rounded != c.rounded || lost != c.lost {
			t.Errorf("splitProduct(%v, %v) = %v, %v", c.a, c.b, rounded, lost)
		}
	}
}

// someNumber is built up by the calls themselves, beside its true value.
func someNumber(t *testing.T, r *rand.Rand, depth int) (Expansion, *big.Int) {
	if depth == 0 {
		list := coordinates(r)
		a, b := list[r.IntN(len(list))], list[r.IntN(len(list))]
		return Difference(a, b), big.NewInt(int64(a) - int64(b))
	}
	e, x := someNumber(t, r, depth-1)
	f, y := someNumber(t, r, depth-1)
	eBefore, fBefore := slices.Clone(e), slices.Clone(f)
	checkValue(t, "Plus", e.Plus(f), new(big.Int).Add(x, y))
	checkValue(t, "Minus", e.Minus(f), new(big.Int).Sub(x, y))
	checkValue(t, "Times", e.Times(f), new(big.Int).Mul(x, y))
	checkValue(t, "Minus itself", e.Minus(e), new(big.Int))
	if !slices.Equal(e, eBefore) || !slices.Equal(f, fBefore) {
		t.Fatal("a call wrote into what it was handed")
	}
	switch r.IntN(3) {
	case 0:
		return e.Plus(f), x.Add(x, y)
	case 1:
		return e.Minus(f), x.Sub(x, y)
	}
	return e.Times(f), x.Mul(x, y)
}

func TestAgainstWholeNumbers(t *testing.T) {
	r := rand.New(rand.NewPCG(2, 2))
	for range 500 {
		someNumber(t, r, 3)
	}
}

// What cancels out but for 1 must leave that 1.
func TestNearlyCancelled(t *testing.T) {
	big1 := Difference(m, -m+1)
	big2 := Difference(m-1, -m+1)
	square := big1.Times(big1)
	almost := big2.Times(big2).Plus(big2).Plus(big2)
	checkValue(t, "n*n - ((n-1)*(n-1) + 2*(n-1))", square.Minus(almost), big.NewInt(1))
	checkValue(t, "the other way round", almost.Minus(square), big.NewInt(-1))
}

func TestNothingInIt(t *testing.T) {
	var none Expansion
	seven := Difference(7, 0)
	checkValue(t, "0", none, new(big.Int))
	checkValue(t, "0 + 7", none.Plus(seven), big.NewInt(7))
	checkValue(t, "0 - 7", none.Minus(seven), big.NewInt(-7))
	checkValue(t, "7 - 0", seven.Minus(none), big.NewInt(7))
	checkValue(t, "0 * 7", none.Times(seven), new(big.Int))
	checkValue(t, "7 * 0", seven.Times(none), new(big.Int))
}

func TestNewMemory(t *testing.T) {
	e := append(make(Expansion, 0, 8), Difference(5, 0)...)
	for _, out := range []Expansion{e.Plus(nil), e.Minus(nil), e.Times(Difference(1, 0))} {
		out[0] = 99
		if e[0] != 5 {
			t.Fatal("an answer shares memory with what was handed in")
		}
	}
	spare := e[:2]
	e.Plus(Difference(m, 0))
	if spare[1] != 0 {
		t.Fatal("a sum was written behind what was handed in")
	}
}
