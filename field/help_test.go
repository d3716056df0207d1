package field_test

import (
	"math"
	"math/big"
	"math/rand"
	"reflect"
	"slices"
	"testing"

	"flatland/api"
	"flatland/field"
)

// The tests compare the package with math/big. Their random numbers are always the same.

var huge = big.NewInt(100000000)

// bigOf returns the value of an integer.
func bigOf(x []int) *big.Int {
	z := new(big.Int)
	for _, e := range slices.Backward(x) {
		z.Mul(z, huge).Add(z, big.NewInt(int64(e)))
	}
	return z
}

// listOf returns the normal form of an integer, computed from its value alone.
func listOf(z *big.Int) []int {
	var x []int
	rest := new(big.Int).Set(z)
	e := new(big.Int)
	for rest.Sign() != 0 {
		rest.QuoRem(rest, huge, e)
		x = append(x, int(e.Int64()))
	}
	return x
}

// wantInt checks that x is the normal form of an integer.
func wantInt(t *testing.T, what string, x []int, z *big.Int) {
	t.Helper()
	if !slices.Equal(x, listOf(z)) {
		t.Errorf("%s: %v, want %v", what, x, listOf(z))
	}
}

// want checks a value that contains no lists.
func want[T comparable](t *testing.T, what string, a, b T) {
	t.Helper()
	if a != b {
		t.Errorf("%s: %v, want %v", what, a, b)
	}
}

// wantList checks a list; nil and empty lists are the same.
func wantList(t *testing.T, what string, a, b []int) {
	t.Helper()
	if !slices.Equal(a, b) {
		t.Errorf("%s: %v, want %v", what, a, b)
	}
}

// num returns a number with coefficients that are written as lists.
func num(d []int, c ...[]int) api.Num { return api.Num{C: c, D: d} }

// sameNum reports whether two numbers have the same elements; nil and empty lists are the same.
func sameNum(x, y api.Num) bool {
	return slices.EqualFunc(x.C, y.C, slices.Equal) && slices.Equal(x.D, y.D)
}

// wantNum checks a number, which has to be in normal form as well.
func wantNum(t *testing.T, what string, x, y api.Num) {
	t.Helper()
	if !sameNum(x, y) {
		t.Errorf("%s: %v, want %v", what, x, y)
	}
}

// isNormal reports whether a number is in normal form, by the definition.
func isNormal(x api.Num, degree int) bool {
	if len(x.C) > degree || len(x.C) > 0 && len(x.C[len(x.C)-1]) == 0 {
		return false
	}
	g := bigOf(x.D)
	if g.Sign() <= 0 || !slices.Equal(x.D, listOf(g)) {
		return false
	}
	for _, c := range x.C {
		if !slices.Equal(c, listOf(bigOf(c))) {
			return false
		}
		g = new(big.Int).GCD(nil, nil, g, bigOf(c).Abs(bigOf(c)))
	}
	return g.Cmp(big.NewInt(1)) == 0
}

// randomInt returns a list of at most n elements, often with elements that carry and borrow.
func randomInt(r *rand.Rand, n int) []int {
	x := make([]int, r.Intn(n+1))
	for i := range x {
		switch r.Intn(9) {
		case 0:
			x[i] = 0
		case 1:
			x[i] = 99999999
		case 2:
			x[i] = -99999999
		case 3:
			x[i] = []int{math.MaxInt, math.MinInt, 100000000, -100000000, 1, -1}[r.Intn(6)]
		case 4:
			x[i] = int(r.Uint64())
		default:
			x[i] = r.Intn(200000000) - 100000000
		}
	}
	return x
}

// randomNum returns a number that is not in normal form.
func randomNum(r *rand.Rand, coefficients, n int) api.Num {
	x := api.Num{D: randomInt(r, n)}
	for range r.Intn(coefficients + 1) {
		x.C = append(x.C, randomInt(r, n))
	}
	return x
}

// smallNum returns a number with small coefficients and a small denominator.
func smallNum(r *rand.Rand, coefficients int) api.Num {
	x := api.Num{D: []int{1 + r.Intn(9)}}
	for range coefficients {
		x.C = append(x.C, []int{r.Intn(41) - 20})
	}
	return x
}

// open opens a field.
func open(t *testing.T, f api.Field, e api.Errno) *field.Real {
	t.Helper()
	r, g := field.Open(f)
	if e != api.OK || g != api.OK || r == nil {
		t.Fatalf("Open of %v: %d, %d", f, e, g)
	}
	return r
}

// samples returns open fields of all degrees.
func samples(t *testing.T) []*field.Real {
	t.Helper()
	l := []*field.Real{
		open(t, field.Rational(), api.OK),
		open(t, api.Field{Poly: []int{7, 1}, Lo: -15, Hi: -13, Den: 2}, api.OK),
		open(t, api.Field{Poly: []int{-2, 0, 1}, Lo: -3, Hi: -2, Den: 2}, api.OK),
		open(t, api.Field{Poly: []int{-1000, 999, -998, 1}, Lo: -1000000, Hi: 1000000, Den: 1}, api.OK),
		open(t, api.Field{Poly: []int{1, -1000, 0, 1}, Lo: -1, Hi: 1, Den: 3}, api.OK),
		open(t, api.Field{Poly: []int{-2, 0, 0, 0, 1}, Lo: -2, Hi: 0, Den: 1}, api.OK),
	}
	for _, d := range []int{2, 3, 5, 8, 999} {
		f, e := field.Root(d)
		l = append(l, open(t, f, e))
	}
	for _, n := range cosines {
		f, e := field.Cosine(n)
		l = append(l, open(t, f, e))
	}
	return l
}

// cosines lists the arguments of Cosine.
var cosines = []int{1, 2, 3, 4, 5, 6, 7, 8, 9, 10, 12, 15}

// degree returns the degree of an open field.
func degree(r *field.Real) int { return len(r.Field().Poly) - 1 }

// root returns w.
func root() api.Num { return num(nil, nil, []int{1}) }

// bits is the precision with which the tests compute real numbers.
const bits = 6000

// float returns an integer as a real number.
func float(n int) *big.Float { return new(big.Float).SetPrec(bits).SetInt64(int64(n)) }

// approximate returns w, found by halving the interval of the field.
func approximate(f api.Field) *big.Float {
	low, high := float(f.Lo), float(f.Hi)
	low.Quo(low, float(f.Den))
	high.Quo(high, float(f.Den))
	if len(f.Poly) == 2 {
		return float(-f.Poly[0])
	}
	left := floatValue(f.Poly, low).Sign()
	for range bits - 200 {
		mid := new(big.Float).Add(low, high)
		mid.Quo(mid, float(2))
		if floatValue(f.Poly, mid).Sign() == left {
			low = mid
		} else {
			high = mid
		}
	}
	return low
}

// floatValue returns the value of a polynomial.
func floatValue(p []int, x *big.Float) *big.Float {
	v := float(0)
	for _, c := range slices.Backward(p) {
		v.Mul(v, x).Add(v, float(c))
	}
	return v
}

// real returns the value of a number, w being known.
func realOf(x api.Num, w *big.Float) *big.Float {
	v := float(0)
	for _, c := range slices.Backward(x.C) {
		v.Mul(v, w).Add(v, new(big.Float).SetPrec(bits).SetInt(bigOf(c)))
	}
	if d := bigOf(x.D); d.Sign() != 0 {
		v.Quo(v, new(big.Float).SetPrec(bits).SetInt(d))
	}
	return v
}

// clone copies a number.
func clone(x api.Num) api.Num {
	y := api.Num{D: slices.Clone(x.D)}
	for _, c := range x.C {
		y.C = append(y.C, slices.Clone(c))
	}
	return y
}

// unchanged checks that an argument is what it was before.
func unchanged[T any](t *testing.T, what string, a, before T) {
	t.Helper()
	if !reflect.DeepEqual(a, before) {
		t.Errorf("%s has written into its argument: %v, was %v", what, a, before)
	}
}
