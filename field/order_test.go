package field_test

import (
	"math"
	"math/big"
	"math/rand"
	"testing"

	"flatland/api"
	"flatland/field"
)

// P1.6: the chapter's examples, and numbers close to each other.
func TestOrderExamples(t *testing.T) {
	f, e := field.Root(2)
	r := open(t, f, e)
	w := root()
	wantList(t, "Floor of 100 w", r.Floor(num(nil, nil, []int{100})), []int{141})
	wantList(t, "Floor of -w", r.Floor(num(nil, nil, []int{-1})), []int{-2})
	wantList(t, "Floor of 7/2", r.Floor(num([]int{2}, []int{7})), []int{3})
	wantList(t, "Floor of -7/2", r.Floor(num([]int{2}, []int{-7})), []int{-4})
	wantList(t, "Floor of -4", r.Floor(num([]int{-2}, []int{8})), []int{-4})
	wantList(t, "Floor of 0", r.Floor(api.Num{}), nil)
	want(t, "Sign of 3 - 2 w", r.Sign(num(nil, []int{3}, []int{-2})), 1)
	want(t, "Sign of 3 - 2 w, written with negative signs", r.Sign(num([]int{-1}, []int{-3}, []int{2})), 1)
	want(t, "Sign of 2 - w w", r.Sign(num(nil, []int{2}, nil, []int{-1})), 0)
	want(t, "Cmp of 7/5 and w", r.Cmp(num([]int{5}, []int{7}), w), -1)
	want(t, "Cmp of 99/70 and w", r.Cmp(num([]int{70}, []int{99}), w), 1)
	want(t, "Cmp of equal numbers", r.Cmp(num([]int{-3}, nil, []int{-3}), w), 0)
	n, e := r.Scaled(w, 4)
	want(t, "Scaled", e, api.OK)
	wantList(t, "Scaled", n, []int{22})
	for _, k := range []int{-1, 201, math.MinInt, math.MaxInt} {
		n, e = r.Scaled(w, k)
		want(t, "Scaled beyond its limits", e, api.ErrRange)
		wantList(t, "Scaled beyond its limits", n, nil)
	}
	n, e = r.Scaled(w, 200)
	want(t, "Scaled by 200", e, api.OK)
	wantList(t, "Scaled by 200", n, listOf(new(big.Int).Sqrt(new(big.Int).Lsh(big.NewInt(2), 400))))
	// (3 - 2 w)^n is as small as 6^-n, its coefficients are as large as 6^n.
	x := num([]int{1}, []int{1})
	for range 600 {
		x = r.Mul(x, num(nil, []int{3}, []int{-2}))
	}
	want(t, "Sign of a small power", r.Sign(x), 1)
	want(t, "Sign of its negative", r.Sign(r.Sub(api.Num{}, x)), -1)
	wantList(t, "Floor of a small power", r.Floor(x), nil)
	wantList(t, "Floor of its negative", r.Floor(r.Sub(api.Num{}, x)), []int{-1})
	wantList(t, "Floor of 5 and a small power", r.Floor(r.Add(field.Whole(5), x)), []int{5})
	wantList(t, "Floor of 5 less a small power", r.Floor(r.Sub(field.Whole(5), x)), []int{4})
}

// P1.6, P1.11: signs and integer parts are those of the real numbers.
func TestOrder(t *testing.T) {
	random := rand.New(rand.NewSource(10))
	for _, r := range samples(t) {
		w := approximate(r.Field())
		for range 60 {
			checkOrder(t, r, w, randomNum(random, 6, 4), randomNum(random, 5, 3))
			checkOrder(t, r, w, smallNum(random, degree(r)), smallNum(random, degree(r)))
		}
	}
}

// checkOrder checks the order of two numbers.
func checkOrder(t *testing.T, r *field.Real, w *big.Float, x, y api.Num) {
	t.Helper()
	a, b := realOf(r.Normal(x), w), realOf(r.Normal(y), w)
	want(t, "Sign", r.Sign(x), signOf(r, x, a))
	want(t, "Cmp", r.Cmp(x, y), signOf(r, r.Sub(x, y), new(big.Float).Sub(a, b)))
	want(t, "Cmp, the other way around", r.Cmp(y, x), -r.Cmp(x, y))
	want(t, "Cmp with itself", r.Cmp(x, r.Normal(x)), 0)
	floor := r.Floor(x)
	wantInt(t, "Floor is in normal form", floor, bigOf(floor))
	whole := api.Num{C: [][]int{floor}}
	if r.Cmp(whole, x) > 0 || r.Cmp(x, r.Add(whole, field.Whole(1))) >= 0 {
		t.Errorf("Floor of %v: %v", x, floor)
	}
	if below := new(big.Float).Sub(a, realOf(whole, w)); below.Sign() < 0 && below.MantExp(nil) > -3000 || below.Cmp(float(1)) >= 0 {
		t.Errorf("Floor of %v: %v", a.Text('g', 30), floor)
	}
	if r.Sign(x) > 0 && r.Sign(y) > 0 {
		want(t, "Sign of a sum of positive numbers", r.Sign(r.Add(x, y)), 1)
		want(t, "Sign of a product of positive numbers", r.Sign(r.Mul(x, y)), 1)
	}
	before, _ := r.Scaled(x, 0)
	wantList(t, "Scaled by 0", before, floor)
	for _, k := range []int{1, 2, 3, 64, 199, 200} {
		low, _ := r.Scaled(x, k-1)
		high, e := r.Scaled(x, k)
		want(t, "Scaled", e, api.OK)
		wantInt(t, "Scaled is in normal form", high, bigOf(high))
		more := field.Sub(high, field.Add(low, low))
		want(t, "Scaled is twice the one before, or one more", len(more) == 0 || len(more) == 1 && more[0] == 1, true)
		wantList(t, "Scaled is a floor", high, r.Floor(r.Mul(x, api.Num{C: [][]int{listOf(new(big.Int).Lsh(big.NewInt(1), uint(k)))}})))
	}
}

// signOf returns the sign of a number with about the value v.
func signOf(r *field.Real, x api.Num, v *big.Float) int {
	if len(r.Normal(x).C) == 0 {
		return 0
	}
	return v.Sign()
}

// P1.6: in a field of any degree, a number that is smaller than any given interval can tell.
func TestSmallNumbers(t *testing.T) {
	for _, r := range samples(t) {
		if degree(r) == 1 {
			continue
		}
		n, _ := r.Scaled(root(), 60)
		x := r.Sub(r.Mul(root(), api.Num{C: [][]int{field.Of(1 << 60)}}), api.Num{C: [][]int{n}}) // from 0 to 1
		y := field.Whole(1)
		for range 60 {
			y = r.Mul(y, x)
		}
		want(t, "Sign of a small number", r.Sign(y), 1)
		want(t, "Sign of its negative", r.Sign(r.Sub(api.Num{}, y)), -1)
		wantList(t, "Floor of a small number", r.Floor(y), nil)
		wantList(t, "Floor of 1 less a small number", r.Floor(r.Sub(field.Whole(1), y)), nil)
		want(t, "Cmp with 1", r.Cmp(y, field.Whole(1)), -1)
		want(t, "Cmp with a smaller one", r.Cmp(y, r.Mul(y, x)), 1)
	}
}

// P1.12: the cosines descend to -2.
func TestCosines(t *testing.T) {
	for _, n := range cosines {
		f, e := field.Cosine(n)
		r := open(t, f, e)
		w, value := root(), approximate(f)
		before, c := field.Whole(2), r.Normal(w)
		for k := 1; k <= n; k++ {
			want(t, "the cosines descend", r.Cmp(c, before), -1)
			v := 2 * math.Cos(float64(k)*math.Pi/float64(n))
			if got, _ := realOf(c, value).Float64(); math.Abs(got-v) > 1e-12 {
				t.Errorf("2 cos(%d pi/%d): %v, want %v", k, n, got, v)
			}
			if k == n {
				wantNum(t, "the last cosine", c, field.Whole(-2))
			}
			before, c = c, r.Sub(r.Mul(w, c), before)
		}
	}
}
