package field_test

import (
	"math"
	"math/cmplx"
	"math/rand"
	"slices"
	"strings"
	"testing"

	"flatland/api"
	"flatland/field"
)

// P1.3: the errors of fields, in their order.
func TestFieldErrors(t *testing.T) {
	for _, x := range []struct {
		poly        []int
		lo, hi, den int
		e           api.Errno
	}{
		{nil, 0, 0, 1, api.ErrShape},
		{[]int{1}, 0, 0, 0, api.ErrShape},
		{[]int{1, 0, 0, 0, 0, 1}, 0, 0, 1, api.ErrShape},
		{[]int{-2, 0, 1, 0, 0, 0}, 1, 2, 1, api.ErrShape},
		{[]int{1001, 1}, 0, 0, 1, api.ErrRange},
		{[]int{-1001, 1}, 0, 0, 1, api.ErrRange},
		{[]int{1, 1001}, 0, 0, 1, api.ErrRange},
		{[]int{math.MinInt, 1}, 0, 0, 1, api.ErrRange},
		{[]int{1, 2}, 0, 0, 0, api.ErrRange},
		{[]int{1, 2}, 0, 0, -1, api.ErrRange},
		{[]int{1, 2}, 0, 0, 1000001, api.ErrRange},
		{[]int{1, 2}, 1000001, 0, 1, api.ErrRange},
		{[]int{1, 2}, 0, -1000001, 1, api.ErrRange},
		{[]int{1, 2}, math.MinInt, math.MaxInt, 1, api.ErrRange},
		{[]int{1, 2}, 5, 0, 1, api.ErrForm},
		{[]int{1, -1}, 0, 2, 1, api.ErrForm},
		{[]int{-2, 0, 1, 0}, 1, 2, 1, api.ErrForm},
		{[]int{1, -2, 1}, 5, 0, 1, api.ErrForm},
		{[]int{0, -2, 1}, 1, 3, 1, api.ErrForm},
		{[]int{0, 0, 0, 1}, -1, 1, 1, api.ErrForm},
		{[]int{1000, 1000, 0, 1}, -1, 1, 1, api.OK},
		{[]int{1000, 1000, 0, 1}, 0, 1, 1, api.ErrNone},
		{[]int{-6, 11, -6, 1}, 0, 1, 1, api.ErrForm},
		{[]int{4, 0, 0, 0, 1}, 0, 2, 1, api.ErrForm},
		{[]int{1, 0, 1, 0, 1}, 0, 2, 1, api.ErrForm},
		{[]int{6, 0, -5, 0, 1}, 0, 2, 1, api.ErrForm},
		{[]int{-1000, 0, 0, 0, 1}, 5, 6, 1, api.OK},
		{[]int{-2, 0, 1}, 2, 1, 1, api.ErrOrder},
		{[]int{2, 0, 1}, 2, 1, 1, api.ErrOrder},
		{[]int{-2, 0, 1}, -2, 2, 1, api.ErrNone},
		{[]int{2, 0, 1}, -2, 2, 1, api.ErrNone},
		{[]int{-2, 0, 1}, 0, 1, 1, api.ErrNone},
		{[]int{-2, 0, 1}, 1, 1, 1, api.ErrNone},
		{[]int{-2, 0, 1}, -3, -2, 2, api.OK},
		{[]int{-2, 0, 1}, 1414213, 1414214, 1000000, api.ErrRange},
		{[]int{-2, 0, 1}, 707106, 707107, 500000, api.OK},
		{[]int{-2, 0, 1}, 707107, 707108, 500000, api.ErrNone},
		{[]int{-2, 0, 0, 0, 1}, 1, 2, 1, api.OK},
		{[]int{5, 1}, -5, -5, 1, api.OK},
		{[]int{5, 1}, -5, 0, 1, api.OK},
		{[]int{5, 1}, -9, -5, 1, api.OK},
		{[]int{5, 1}, -10, -10, 2, api.OK},
		{[]int{5, 1}, -4, 4, 1, api.ErrNone},
		{[]int{1000, 1}, -1000, -1000, 1, api.OK},
		{[]int{1000, 1}, -1000000, -1000000, 1000, api.OK},
		{[]int{1000, 1}, -1000000, -1000000, 1000000, api.ErrNone},
	} {
		checkField(t, api.Field{Poly: x.poly, Lo: x.lo, Hi: x.hi, Den: x.den}, x.e)
	}
}

// checkField checks that a field has an error, and otherwise that it is opened, written and read.
func checkField(t *testing.T, f api.Field, e api.Errno) {
	t.Helper()
	want(t, "Check of "+text(f), field.Check(f), e)
	r, g := field.Open(f)
	want(t, "Open of "+text(f), g, e)
	want(t, "Open of "+text(f), r != nil, e == api.OK)
	s, g := field.FormatField(f)
	want(t, "FormatField of "+text(f), g, e)
	if e != api.OK {
		want(t, "FormatField of "+text(f), s, "")
		h, g := field.ParseField(text(f))
		want(t, "ParseField of "+text(f), g, api.ErrSyntax)
		wantField(t, "ParseField of "+text(f), h, api.Field{})
		return
	}
	want(t, "FormatField of "+text(f), s, text(f))
	h, g := field.ParseField(s)
	want(t, "ParseField of "+s, g, api.OK)
	wantField(t, "ParseField of "+s, h, f)
	wantField(t, "Field", r.Field(), f)
}

// text returns the text of a field, valid or not.
func text(f api.Field) string {
	var poly []string
	for _, c := range f.Poly {
		poly = append(poly, field.Format(field.Of(c)))
	}
	s := strings.Join(poly, ",")
	for _, n := range []int{f.Lo, f.Hi, f.Den} {
		s += " " + field.Format(field.Of(n))
	}
	return s
}

// wantField checks a field.
func wantField(t *testing.T, what string, f, g api.Field) {
	t.Helper()
	wantList(t, what, f.Poly, g.Poly)
	want(t, what, [3]int{f.Lo, f.Hi, f.Den}, [3]int{g.Lo, g.Hi, g.Den})
}

// P1.3: all polynomials with small coefficients that have divisors are those that are products of two others.
func TestDivisors(t *testing.T) {
	products := map[[5]int]bool{}
	var factors [][]int
	const bound = 12 // the roots of the polynomials below are at most 4 in size, so this bounds their divisors' coefficients, but for the second one of cubics, which a linear divisor shows
	for a := -4; a <= 4; a++ {
		factors = append(factors, []int{a, 1})
		for b := -bound; b <= bound; b++ {
			factors = append(factors, []int{b, 2 * a, 1}, []int{b, 2*a + 1, 1}, []int{b, 2*a - 1, 1})
			for c := -30; c <= 30 && a >= -3 && a <= 3; c++ {
				factors = append(factors, []int{a, c, b, 1})
			}
		}
	}
	for i, p := range factors {
		for _, q := range factors[:i+1] {
			if len(p)+len(q) > 6 {
				continue
			}
			var key [5]int
			for i, x := range p {
				for j, y := range q {
					key[i+j] += x * y
				}
			}
			products[key] = true
		}
	}
	const most = 3
	for degree := 2; degree <= 4; degree++ {
		poly := slices.Repeat([]int{-most}, degree)
		for {
			f := api.Field{Poly: append(slices.Clone(poly), 1), Lo: 1, Hi: 0, Den: 1}
			var key [5]int
			copy(key[:], f.Poly)
			e := api.ErrOrder
			if products[key] {
				e = api.ErrForm
			}
			want(t, "Check of "+text(f), field.Check(f), e)
			i := 0
			for ; i < degree && poly[i] == most; i++ {
				poly[i] = -most
			}
			if i == degree {
				break
			}
			poly[i]++
		}
	}
}

// P1.3: divisors with coefficients of any size that are possible.
func TestLargeDivisors(t *testing.T) {
	for b := -40; b <= 40; b++ {
		for d := -20; d <= 20; d += 3 {
			for a := -30; a <= 30; a++ {
				p := []int{b * d, a*d - a*b, b + d - a*a, 0, 1} // (x^2 + a x + b)(x^2 - a x + d)
				f := api.Field{Poly: p, Lo: 1, Hi: 0, Den: 1}
				e := api.ErrForm
				if slices.Max(p) > 1000 || slices.Min(p) < -1000 {
					e = api.ErrRange
				}
				want(t, "Check of "+text(f), field.Check(f), e)
			}
		}
	}
}

// P1.3: the number of roots in an interval, for all polynomials with small coefficients.
func TestRootsInInterval(t *testing.T) {
	random := rand.New(rand.NewSource(11))
	const most = 3
	for degree := 2; degree <= 4; degree++ {
		for k := range int(math.Pow(2*most+1, float64(degree))) {
			f := api.Field{Lo: 1, Hi: 0, Den: 1}
			for range degree {
				f.Poly = append(f.Poly, k%(2*most+1)-most)
				k /= 2*most + 1
			}
			f.Poly = append(f.Poly, 1)
			if field.Check(f) == api.ErrForm {
				continue
			}
			roots := realRoots(f.Poly)
			for range 25 {
				f.Den = 1 + random.Intn(9)
				f.Lo = random.Intn(10*f.Den) - 5*f.Den
				f.Hi = f.Lo + random.Intn(5*f.Den)
				n := 0
				for _, x := range roots {
					if float64(f.Lo) < x*float64(f.Den) && x*float64(f.Den) < float64(f.Hi) {
						n++
					}
				}
				e := api.ErrNone
				if n == 1 {
					e = api.OK
				}
				want(t, "Check of "+text(f), field.Check(f), e)
			}
		}
	}
}

// realRoots returns the real roots of a polynomial without multiple ones (Durand and Kerner's way).
func realRoots(p []int) []float64 {
	z := make([]complex128, len(p)-1)
	for i := range z {
		z[i] = cmplx.Pow(complex(0.4, 0.9), complex(float64(i), 0))
	}
	for range 300 {
		for i, x := range z {
			v := complex(0, 0)
			for _, c := range slices.Backward(p) {
				v = v*x + complex(float64(c), 0)
			}
			for j, y := range z {
				if j != i {
					v /= x - y
				}
			}
			z[i] = x - v
		}
	}
	var roots []float64
	for _, x := range z {
		if math.Abs(imag(x)) < 1e-9 {
			roots = append(roots, real(x))
		}
	}
	return roots
}

// P1.3: what is no text of a field.
func TestFieldSyntax(t *testing.T) {
	f, e := field.ParseField("-2,0,1 1 2 1")
	want(t, "ParseField", e, api.OK)
	wantField(t, "ParseField", f, api.Field{Poly: []int{-2, 0, 1}, Lo: 1, Hi: 2, Den: 1})
	for _, s := range []string{
		"", " ", "   ", "-2,0,1", "-2,0,1 1 2", "-2,0,1 1 2 1 ", " -2,0,1 1 2 1", "-2,0,1  1 2 1", "-2,0,1 1 2 1 1", "-2,0,1 1 2 1\n",
		"-2,00,1 1 2 1", "-2,-0,1 1 2 1", "-2,0,+1 1 2 1", "-2,0,1, 1 2 1", ",-2,0,1 1 2 1", "-2,,1 1 2 1", "-2 0 1 1 2 1", "-2,0,1 01 2 1", "-2,0,1 1 +2 1", "-2,0,1 1 2 x", "-2,0,1\t1 2 1",
		"-2,0,1 -2 2 1", "-2,0,1 2 1 1", "1,-2,1 0 2 1", "1 0 2 1", "-1001,1 0 2 1", "-2,0,1 1 2 0", "-2,0,1 1 2 99999999999999999999999999", "-2,0,1 1 18446744073709551618 1",
	} {
		f, e := field.ParseField(s)
		want(t, "ParseField of "+s, e, api.ErrSyntax)
		wantField(t, "ParseField of "+s, f, api.Field{})
	}
}

// P1.4: the given fields.
func TestGivenFields(t *testing.T) {
	wantField(t, "Rational", field.Rational(), api.Field{Poly: []int{0, 1}, Den: 1})
	want(t, "Check of Rational", field.Check(field.Rational()), api.OK)
	for d := -3; d <= 1003; d++ {
		s := int(math.Sqrt(float64(max(d, 0))))
		f, e := field.Root(d)
		switch {
		case d < 2 || d > 1000:
			want(t, "Root beyond its limits", e, api.ErrRange)
			wantField(t, "Root beyond its limits", f, api.Field{})
		case s*s == d:
			want(t, "Root of a square", e, api.ErrForm)
			wantField(t, "Root of a square", f, api.Field{})
		default:
			want(t, "Root", e, api.OK)
			wantField(t, "Root", f, api.Field{Poly: []int{-d, 0, 1}, Lo: s, Hi: s + 1, Den: 1})
			want(t, "Check of Root", field.Check(f), api.OK)
		}
	}
	_, e := field.Root(math.MinInt)
	want(t, "Root of the least int", e, api.ErrRange)
	table := map[int]string{1: "2,1 -2 -2 1", 2: "0,1 0 0 1", 3: "-1,1 1 1 1", 4: "-2,0,1 1 2 1", 5: "-1,-1,1 3 4 2", 6: "-3,0,1 3 4 2", 7: "1,-2,-1,1 3 4 2", 8: "2,0,-4,0,1 3 4 2", 9: "-1,-3,0,1 3 4 2", 10: "5,0,-5,0,1 3 4 2", 12: "1,0,-4,0,1 3 4 2", 15: "1,-4,-4,1,1 3 4 2"}
	for n := -2; n <= 20; n++ {
		f, e := field.Cosine(n)
		s, ok := table[n]
		if !ok {
			want(t, "Cosine of another number", e, api.ErrRange)
			wantField(t, "Cosine of another number", f, api.Field{})
			continue
		}
		want(t, "Cosine", e, api.OK)
		want(t, "Cosine", text(f), s)
		want(t, "Check of Cosine", field.Check(f), api.OK)
	}
}
