package field_test

import (
	"math"
	"math/big"
	"math/rand"
	"slices"
	"strings"
	"testing"

	"flatland/api"
	"flatland/field"
)

// P1.5: whole numbers and fractions.
func TestFractions(t *testing.T) {
	wantNum(t, "Whole of 0", field.Whole(0), num([]int{1}))
	wantNum(t, "Whole", field.Whole(-100000005), num([]int{1}, []int{-5, -1}))
	wantNum(t, "Whole of the least int", field.Whole(math.MinInt), num([]int{1}, field.Of(math.MinInt)))
	for _, x := range []struct {
		a, b int
		want api.Num
	}{
		{6, -4, num([]int{2}, []int{-3})},
		{-6, -4, num([]int{2}, []int{3})},
		{0, -4, num([]int{1})},
		{0, math.MinInt, num([]int{1})},
		{7, 1, num([]int{1}, []int{7})},
		{math.MinInt, -1, num([]int{1}, field.Sub(nil, field.Of(math.MinInt)))},
		{math.MinInt, math.MinInt, num([]int{1}, []int{1})},
		{1, math.MinInt, num(field.Sub(nil, field.Of(math.MinInt)), []int{-1})},
	} {
		y, e := field.Ratio(x.a, x.b)
		want(t, "Ratio", e, api.OK)
		wantNum(t, "Ratio", y, x.want)
	}
	for _, a := range []int{0, 1, math.MinInt} {
		y, e := field.Ratio(a, 0)
		want(t, "Ratio by 0", e, api.ErrZero)
		wantNum(t, "Ratio by 0", y, api.Num{})
	}
	for _, r := range samples(t) {
		x, _ := field.Ratio(-10, 15)
		wantNum(t, "Normal of a fraction", r.Normal(num([]int{-15}, []int{10}, nil)), x)
	}
}

// P1.5: normal forms of numbers.
func TestNormalNumber(t *testing.T) {
	f, e := field.Root(2)
	r := open(t, f, e)
	wantField(t, "Field", r.Field(), f)
	for _, x := range []struct{ x, want api.Num }{
		{api.Num{}, num([]int{1})},
		{num([]int{0, 0}, nil, nil), num([]int{1})},
		{num([]int{100000000, -1}, []int{3}), num([]int{1}, []int{3})},
		{num([]int{-6}, []int{4}, nil, []int{3}, []int{-2}), num([]int{3}, []int{-5}, []int{2})},
		{num([]int{-6}), num([]int{1})},
		{num([]int{2}, []int{-1, 1}, []int{100000000, -1}), num([]int{2}, []int{99999999})},
		{num(nil, []int{2}, nil, []int{-1}), num([]int{1})},
		{num([]int{12}, []int{6}, []int{-18}), num([]int{2}, []int{1}, []int{-3})},
		{num([]int{5}, nil, nil, nil, []int{10}), num([]int{1}, nil, []int{4})},
		{num(nil, []int{1}, []int{0, 0, 0}, nil, nil, nil, nil, []int{0}), num([]int{1}, []int{1})},
	} {
		wantNum(t, "Normal", r.Normal(x.x), x.want)
	}
	long := api.Num{C: make([][]int, 2001), D: nil}
	long.C[2000] = []int{1}
	power := new(big.Int).Lsh(big.NewInt(1), 1000)
	wantNum(t, "Normal of w^2000", r.Normal(long), num([]int{1}, listOf(power)))
}

// P1.5, P1.11: the results are in normal form and right, for arguments of any form: the laws of a field hold, and sums and products are those of the real numbers.
func TestFieldLaws(t *testing.T) {
	r := rand.New(rand.NewSource(6))
	for _, f := range samples(t) {
		w := approximate(f.Field())
		for range 60 {
			x, y, z := randomNum(r, 6, 3), randomNum(r, 5, 3), randomNum(r, 4, 3)
			sum, diff, prod := f.Add(x, y), f.Sub(x, y), f.Mul(x, y)
			for _, n := range []api.Num{sum, diff, prod, f.Normal(x)} {
				want(t, "a result is in normal form", isNormal(n, degree(f)), true)
			}
			wantNear(t, "Normal", f.Normal(x), realOf(x, w), w)
			wantNear(t, "Add", sum, new(big.Float).Add(realOf(x, w), realOf(y, w)), w)
			wantNear(t, "Sub", diff, new(big.Float).Sub(realOf(x, w), realOf(y, w)), w)
			wantNear(t, "Mul", prod, new(big.Float).Mul(realOf(x, w), realOf(y, w)), w)
			wantNum(t, "x + y", sum, f.Add(y, x))
			wantNum(t, "x y", prod, f.Mul(y, x))
			wantNum(t, "x (y + z)", f.Mul(x, f.Add(y, z)), f.Add(f.Mul(x, y), f.Mul(x, z)))
			wantNum(t, "(x y) z", f.Mul(prod, z), f.Mul(x, f.Mul(y, z)))
			wantNum(t, "(x - y) + y", f.Add(diff, y), f.Normal(x))
			wantNum(t, "the normal form again", f.Normal(f.Normal(x)), f.Normal(x))
			checkQuotient(t, f, x, y)
			checkQuotient(t, f, x, smallNum(r, 4))
		}
	}
}

// wantNear checks that a number is about a real one.
func wantNear(t *testing.T, what string, x api.Num, v, w *big.Float) {
	t.Helper()
	diff := new(big.Float).Sub(realOf(x, w), v)
	if diff.Sign() != 0 && diff.MantExp(nil) > -3000 {
		t.Errorf("%s: %v is not about %v", what, x, v.Text('g', 20))
	}
}

// checkQuotient checks a quotient.
func checkQuotient(t *testing.T, f *field.Real, x, y api.Num) {
	t.Helper()
	q, e := f.Quo(x, y)
	if len(f.Normal(y).C) == 0 {
		want(t, "Quo by 0", e, api.ErrZero)
		wantNum(t, "Quo by 0", q, api.Num{})
		return
	}
	want(t, "Quo", e, api.OK)
	want(t, "a quotient is in normal form", isNormal(q, degree(f)), true)
	wantNum(t, "(x/y) y", f.Mul(q, y), f.Normal(x))
}

// P1.5: the chapter's examples, and quotients by 0.
func TestNumberExamples(t *testing.T) {
	f, e := field.Root(2)
	r := open(t, f, e)
	w, one := root(), field.Whole(1)
	wantNum(t, "w w", r.Mul(w, w), field.Whole(2))
	x, e := r.Quo(one, r.Add(one, w))
	want(t, "1/(1 + w)", e, api.OK)
	wantNum(t, "1/(1 + w)", x, num([]int{1}, []int{-1}, []int{1}))
	for _, zero := range []api.Num{{}, num([]int{-3}), num(nil, []int{-2}, nil, []int{1}), num([]int{0}, []int{100000000, -1})} {
		for _, x := range []api.Num{{}, one, w} {
			checkQuotient(t, r, x, zero)
		}
	}
}

// P1.7: norms and traces.
func TestNormAndTrace(t *testing.T) {
	f, e := field.Root(2)
	r := open(t, f, e)
	wantNum(t, "Norm of 3 + w", r.Norm(num(nil, []int{3}, []int{1})), field.Whole(7))
	wantNum(t, "Trace of 3 + w", r.Trace(num(nil, []int{3}, []int{1})), field.Whole(6))
	random := rand.New(rand.NewSource(7))
	for _, r := range samples(t) {
		wantNum(t, "Norm of 0", r.Norm(api.Num{}), field.Whole(0))
		wantNum(t, "Trace of 0", r.Trace(api.Num{}), field.Whole(0))
		d := degree(r)
		for range 25 {
			x, y := randomNum(random, 6, 2), randomNum(random, 5, 2)
			n := r.Norm(x)
			want(t, "Norm is in normal form", isNormal(n, 1), true)
			want(t, "Trace is in normal form", isNormal(r.Trace(x), 1), true)
			want(t, "Norm is 0", len(n.C) == 0, len(r.Normal(x).C) == 0)
			wantNum(t, "Norm of x y", r.Norm(r.Mul(x, y)), r.Mul(n, r.Norm(y)))
			wantNum(t, "Trace of x + y", r.Trace(r.Add(x, y)), r.Add(r.Trace(x), r.Trace(y)))
			a := num(randomInt(random, 2), randomInt(random, 2))
			power, value := field.Whole(1), field.Whole(0)
			for _, c := range r.Field().Poly {
				value = r.Add(value, r.Mul(power, field.Whole(c)))
				power = r.Mul(power, a)
			}
			// The polynomial is that of multiplication by w.
			wantNum(t, "Norm of a - w", r.Norm(r.Sub(a, root())), value)
			wantNum(t, "Trace of a", r.Trace(a), r.Mul(a, field.Whole(d)))
		}
		sum := r.Field().Poly[d-1]
		wantNum(t, "Trace of w", r.Trace(root()), field.Whole(-sum))
		if d > 1 { // Newton's second identity
			wantNum(t, "Trace of w w", r.Trace(r.Mul(root(), root())), field.Whole(sum*sum-2*r.Field().Poly[d-2]))
		}
	}
}

// P1.9: texts of numbers.
func TestNumberTexts(t *testing.T) {
	f, e := field.Root(2)
	r := open(t, f, e)
	for _, x := range []struct {
		x    api.Num
		text string
	}{
		{num([]int{6}, []int{3}, []int{1}), "3,1/6"},
		{api.Num{}, "0"},
		{num([]int{-7}), "0"},
		{num(nil, []int{-1}, []int{1}), "-1,1"},
		{num([]int{2}, nil, []int{-1}), "0,-1/2"},
		{num([]int{-12}, []int{6}, []int{2}), "-3,-1/6"},
		{num([]int{0, 5}, []int{1, 0, 1}), "10000000000000001/500000000"},
	} {
		want(t, "Format", r.Format(x.x), x.text)
		y, e := r.Parse(x.text)
		want(t, "Parse", e, api.OK)
		wantNum(t, "Parse", y, r.Normal(x.x))
	}
	random := rand.New(rand.NewSource(8))
	for _, r := range samples(t) {
		for range 40 {
			x := randomNum(random, 6, 3)
			s := r.Format(x)
			var parts []string
			y := r.Normal(x)
			for _, c := range y.C {
				parts = append(parts, bigOf(c).String())
			}
			text := strings.Join(parts, ",")
			if text == "" {
				text = "0"
			}
			if d := bigOf(y.D).String(); d != "1" {
				text += "/" + d
			}
			want(t, "Format", s, text)
			z, e := r.Parse(s)
			want(t, "Parse", e, api.OK)
			wantNum(t, "Parse", z, y)
		}
	}
}

// P1.9: what is no text of a number.
func TestNumberSyntax(t *testing.T) {
	f, e := field.Root(2)
	r := open(t, f, e)
	for _, s := range []string{"", "/", ",", "6,2/12", "3,0", "3,1/1", "3,1,0", "3,1,1", "1/-2", "0/2", "1//2", "1/2/3", "1/0", "1/", "/2", "1,", ",1", "1,,1", "-0", "0,0", "01", "1 ", " 1", "1,01", "1/02", "+1", "1,x", "x", "1/x", "1\n", "1, 1", strings.Repeat("1,", 800)} {
		x, e := r.Parse(s)
		want(t, "Parse of "+s, e, api.ErrSyntax)
		wantNum(t, "Parse of "+s, x, api.Num{})
	}
	_, e = open(t, field.Rational(), api.OK).Parse("1,1")
	want(t, "Parse of a number of another field", e, api.ErrSyntax)
	long := strings.Repeat("7", 799) + "," + strings.Repeat("9", 800)
	x, e := r.Parse(long)
	want(t, "Parse of 1600 bytes", e, api.OK)
	want(t, "and back", r.Format(x), long)
	for _, s := range []string{long + "9", strings.Repeat("x", 1601)} {
		x, e = r.Parse(s)
		want(t, "Parse of 1601 bytes", e, api.ErrLarge)
		wantNum(t, "Parse of 1601 bytes", x, api.Num{})
	}
}

// P1.10: nil fields.
func TestNilField(t *testing.T) {
	var r *field.Real
	w := root()
	u, m := api.Vec{X: w, Y: w}, api.Mat{A: w, B: w, C: w, D: w}
	x, e := r.Quo(w, api.Num{})
	want(t, "Quo", e, api.ErrNil)
	wantNum(t, "Quo", x, api.Num{})
	x, e = r.Parse(strings.Repeat("1", 2000))
	want(t, "Parse", e, api.ErrNil)
	wantNum(t, "Parse", x, api.Num{})
	n, e := r.Scaled(w, -1)
	want(t, "Scaled", e, api.ErrNil)
	wantList(t, "Scaled", n, nil)
	want(t, "Format", r.Format(w), "")
	want(t, "Sign", r.Sign(w), 0)
	want(t, "Cmp", r.Cmp(w, api.Num{}), 0)
	wantList(t, "Floor", r.Floor(w), nil)
	wantField(t, "Field", r.Field(), api.Field{})
	vector, matrix := r.Sum(u, u), r.Product(m, m)
	more := r.Times(w, u)
	taken := r.Apply(m, u)
	for _, x := range []api.Num{r.Normal(w), r.Add(w, w), r.Sub(w, w), r.Mul(w, w), r.Norm(w), r.Trace(w), r.Cross(u, u), vector.X, vector.Y, more.X, more.Y, taken.X, taken.Y, matrix.A, matrix.B, matrix.C, matrix.D} {
		if x.C != nil || x.D != nil {
			t.Errorf("a nil field returns %v", x)
		}
	}
	r, e = field.Open(api.Field{})
	want(t, "Open of no field", e, api.ErrShape)
	want(t, "Open of no field", r == nil, true)
}

// P1.8, P1.13: vectors, matrices, areas.
func TestVectors(t *testing.T) {
	f, e := field.Root(2)
	r := open(t, f, e)
	w, one := root(), field.Whole(1)
	u, v := api.Vec{X: one, Y: w}, api.Vec{X: w, Y: field.Whole(3)}
	twice := num([]int{1}, nil, []int{2})
	wantNum(t, "Cross", r.Cross(u, v), one)
	wantVec(t, "Sum", r.Sum(u, u), api.Vec{X: field.Whole(2), Y: twice})
	wantVec(t, "Times", r.Times(w, u), api.Vec{X: num([]int{1}, nil, []int{1}), Y: field.Whole(2)})
	m := api.Mat{A: one, B: w, C: field.Whole(5), D: field.Whole(0)}
	wantVec(t, "Apply", r.Apply(m, u), api.Vec{X: field.Whole(3), Y: field.Whole(5)})
	wantMat(t, "Product", r.Product(m, api.Mat{A: w, B: one, C: field.Whole(0), D: w}), api.Mat{A: num([]int{1}, nil, []int{1}), B: field.Whole(3), C: num([]int{1}, nil, []int{5}), D: field.Whole(5)})
	random := rand.New(rand.NewSource(9))
	for _, r := range samples(t) {
		for range 20 {
			checkVectors(t, r, random)
		}
	}
}

// checkVectors checks the laws of vectors and matrices.
func checkVectors(t *testing.T, r *field.Real, random *rand.Rand) {
	t.Helper()
	any := func() api.Num { return randomNum(random, 5, 2) }
	u, v := api.Vec{X: any(), Y: any()}, api.Vec{X: any(), Y: any()}
	m, n := api.Mat{A: any(), B: any(), C: any(), D: any()}, api.Mat{A: any(), B: any(), C: any(), D: any()}
	det := func(m api.Mat) api.Num { return r.Sub(r.Mul(m.A, m.D), r.Mul(m.B, m.C)) }
	x := any()
	wantNum(t, "Cross", r.Cross(u, v), r.Sub(r.Mul(u.X, v.Y), r.Mul(u.Y, v.X)))
	wantVec(t, "Sum", r.Sum(u, v), api.Vec{X: r.Add(u.X, v.X), Y: r.Add(u.Y, v.Y)})
	wantVec(t, "Times", r.Times(x, u), api.Vec{X: r.Mul(x, u.X), Y: r.Mul(x, u.Y)})
	wantVec(t, "Apply", r.Apply(m, u), api.Vec{X: r.Add(r.Mul(m.A, u.X), r.Mul(m.B, u.Y)), Y: r.Add(r.Mul(m.C, u.X), r.Mul(m.D, u.Y))})
	wantVec(t, "Apply of a product", r.Apply(r.Product(m, n), u), r.Apply(m, r.Apply(n, u)))
	wantNum(t, "an area", r.Cross(r.Apply(m, u), r.Apply(m, v)), r.Mul(det(m), r.Cross(u, v)))
	wantNum(t, "the determinant of a product", det(r.Product(m, n)), r.Mul(det(m), det(n)))
}

// wantVec checks a vector.
func wantVec(t *testing.T, what string, u, v api.Vec) {
	t.Helper()
	wantNum(t, what, u.X, v.X)
	wantNum(t, what, u.Y, v.Y)
}

// wantMat checks a matrix.
func wantMat(t *testing.T, what string, m, n api.Mat) {
	t.Helper()
	for i, x := range []api.Num{m.A, m.B, m.C, m.D} {
		wantNum(t, what, x, []api.Num{n.A, n.B, n.C, n.D}[i])
	}
}

// P1.5: the elements of numbers may be as long as they like.
func TestLongNumbers(t *testing.T) {
	for _, r := range samples(t) {
		x := num(slices.Repeat([]int{7, -3}, 40), slices.Repeat([]int{99999999}, 80), slices.Repeat([]int{-5, 12345}, 40))
		y := r.Normal(x)
		checkQuotient(t, r, x, r.Mul(x, x))
		checkQuotient(t, r, r.Mul(x, x), x)
		wantNum(t, "x", r.Sub(r.Add(x, x), x), y)
	}
}
