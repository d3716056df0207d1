package field

import (
	"slices"
	"sort"

	"flatland/api"
)

// The bounds of the interval of a field, and of its denominator.
const (
	maxEnd = 1000000
	maxDen = 1000000
)

// Check returns the error of a field.
func Check(f api.Field) api.Errno {
	last := len(f.Poly) - 1
	switch {
	case last < 1 || last > api.MaxDegree:
		return api.ErrShape
	case !inRange(f):
		return api.ErrRange
	case f.Poly[last] != 1 || hasDivisor(f.Poly):
		return api.ErrForm
	case f.Lo > f.Hi:
		return api.ErrOrder
	case !hasOneRoot(f):
		return api.ErrNone
	}
	return api.OK
}

// inRange reports whether the numbers of a field are within their bounds.
func inRange(f api.Field) bool {
	for _, c := range f.Poly {
		if !within(c, -api.MaxCoef, api.MaxCoef) {
			return false
		}
	}
	return within(f.Den, 1, maxDen) && within(f.Lo, -maxEnd, maxEnd) && within(f.Hi, -maxEnd, maxEnd)
}

// within reports whether n is from a to b.
func within(n, a, b int) bool { return a <= n && n <= b }

// hasDivisor reports whether a polynomial of degree 1 to 4 with the leading coefficient 1 has a divisor of a smaller positive degree. As the leading coefficient is 1, such a divisor can be chosen with integer coefficients, and the constant one divides that of the polynomial.
func hasDivisor(p []int) bool {
	if len(p) == 2 {
		return false
	}
	if p[0] == 0 {
		return true
	}
	for d := range divisors(p[0]) {
		if horner(p, d) == 0 || len(p) == 5 && hasQuadratic(p, d) {
			return true
		}
	}
	return false
}

// divisors yields the divisors of a number that is not 0, of both signs.
func divisors(n int) func(yield func(int) bool) {
	return func(yield func(int) bool) {
		n = max(n, -n)
		for d := 1; d*d <= n; d++ {
			if n%d != 0 {
				continue
			}
			if !yield(d) || !yield(-d) || !yield(n/d) || !yield(-n/d) {
				return
			}
		}
	}
}

// horner returns the value of a polynomial.
func horner(p []int, x int) int {
	v := 0
	for _, c := range slices.Backward(p) {
		v = v*x + c
	}
	return v
}

// hasQuadratic reports whether p is the product of x^2 + a x + b and x^2 + c x + d with integers a, c and d, a being at least c. (That is enough, as b and d are both divisors of the constant coefficient.)
func hasQuadratic(p []int, b int) bool {
	d := p[0] / b
	sum, prod := p[3], p[2]-b-d // of a and c
	s, ok := squareRoot(sum*sum - 4*prod)
	a := (sum + s) / 2 // if s is the root, it has the same parity as the sum
	return ok && a*d+b*(sum-a) == p[1]
}

// squareRoot returns the root of a number of at most some millions, if it is a square.
func squareRoot(n int) (int, bool) {
	s := rootAbove(n)
	return s, s*s == n
}

// rootAbove returns the least number from 0 on whose square is at least n.
func rootAbove(n int) int {
	return sort.Search(max(n, 0), func(s int) bool { return s*s >= n })
}

// hasOneRoot reports whether the polynomial of a field, which has no divisors, has just one root in its interval.
func hasOneRoot(f api.Field) bool {
	if len(f.Poly) == 2 {
		return within(-f.Poly[0]*f.Den, f.Lo, f.Hi)
	}
	// No fraction is a root, so Sturm's theorem, which leaves out the lower end, counts all roots.
	chain := sturm(lists(f.Poly))
	return variations(chain, Of(f.Lo), Of(f.Den))-variations(chain, Of(f.Hi), Of(f.Den)) == 1
}

// Rational returns the field of the fractions.
func Rational() api.Field { return api.Field{Poly: []int{0, 1}, Den: 1} }

// Root returns the field of a square root.
func Root(d int) (api.Field, api.Errno) {
	if !within(d, 2, api.MaxCoef) {
		return api.Field{}, api.ErrRange
	}
	s := rootAbove(d)
	if s*s == d {
		return api.Field{}, api.ErrForm
	}
	return api.Field{Poly: []int{-d, 0, 1}, Lo: s - 1, Hi: s, Den: 1}, api.OK
}

// Cosine returns the field of 2 cos(pi/n).
func Cosine(n int) (api.Field, api.Errno) {
	f := api.Field{Lo: 3, Hi: 4, Den: 2}
	switch n {
	case 1:
		f = api.Field{Poly: []int{2, 1}, Lo: -2, Hi: -2, Den: 1}
	case 2:
		f = api.Field{Poly: []int{0, 1}, Lo: 0, Hi: 0, Den: 1}
	case 3:
		f = api.Field{Poly: []int{-1, 1}, Lo: 1, Hi: 1, Den: 1}
	case 4:
		f = api.Field{Poly: []int{-2, 0, 1}, Lo: 1, Hi: 2, Den: 1}
	case 5:
		f.Poly = []int{-1, -1, 1}
	case 6:
		f.Poly = []int{-3, 0, 1}
	case 7:
		f.Poly = []int{1, -2, -1, 1}
	case 8:
		f.Poly = []int{2, 0, -4, 0, 1}
	case 9:
		f.Poly = []int{-1, -3, 0, 1}
	case 10:
		f.Poly = []int{5, 0, -5, 0, 1}
	case 12:
		f.Poly = []int{1, 0, -4, 0, 1}
	case 15:
		f.Poly = []int{1, -4, -4, 1, 1}
	default:
		return api.Field{}, api.ErrRange
	}
	return f, api.OK
}
