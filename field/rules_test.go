package field_test

import (
	"math"
	"slices"
	"testing"

	"flatland/api"
	"flatland/field"
)

// spoil writes into a list and into what may lie behind it.
func spoil(x []int) {
	for i := range x {
		x[i] = 77
	}
	_ = append(x, 77, 77)
}

// spoilNum writes into a number.
func spoilNum(x api.Num) {
	for _, c := range x.C {
		spoil(c)
	}
	spoil(x.D)
	for i := range x.C {
		x.C[i] = []int{77}
	}
}

// R3: integers are not written into, and results are new.
func TestIntegerMemory(t *testing.T) {
	values := [][]int{nil, {3}, {-7, 5}, {0, 0, 1}, {100000000, -5, 0}, {1, 2, 3, 4, 5}}
	calls := map[string]func(x, y []int) []int{
		"Normal": func(x, _ []int) []int { return field.Normal(x) },
		"Add":    field.Add,
		"Sub":    field.Sub,
		"Mul":    field.Mul,
		"Gcd":    field.Gcd,
		"DivMod": func(x, y []int) []int { q, _, _ := field.DivMod(x, y); return q },
		"Mod":    func(x, y []int) []int { _, r, _ := field.DivMod(x, y); return r },
		"Parse":  func(x, _ []int) []int { r, _ := field.Parse(field.Format(x)); return r },
	}
	for name, call := range calls {
		for _, a := range values {
			for _, b := range values {
				x, y := append(slices.Clone(a), 9)[:len(a)], append(slices.Clone(b), 9)[:len(b)]
				z := call(x, y)
				again := slices.Clone(z)
				unchanged(t, name, append(x, x[:len(a)+1][len(a)]), append(slices.Clone(a), 9))
				unchanged(t, name, append(y, y[:len(b)+1][len(b)]), append(slices.Clone(b), 9))
				spoil(z)
				wantList(t, name+" keeps its first argument", x, a)
				wantList(t, name+" keeps its second argument", y, b)
				z = call(x, y)
				spoil(x)
				spoil(y)
				wantList(t, name+" keeps its result", z, again)
			}
		}
	}
	q, r, _ := field.DivMod([]int{7, 9}, []int{5})
	before := slices.Clone(r)
	spoil(q)
	wantList(t, "quotient and remainder share no memory", r, before)
}

// R3, R4: numbers and fields are not written into, results are new, and an open field does not change.
func TestNumberMemory(t *testing.T) {
	f, _ := field.Cosine(15)
	poly := slices.Clone(f.Poly)
	r := open(t, f, api.OK)
	spoil(f.Poly)
	spoil(r.Field().Poly)
	wantList(t, "the field that was opened", r.Field().Poly, poly)
	values := []api.Num{{}, num([]int{1}, []int{3}), num([]int{6}, []int{4}, nil, []int{2}), num(nil, []int{1}, []int{2}, []int{3}, []int{4}, []int{5}), num([]int{-3}, []int{0, 1})}
	calls := map[string]func(x, y api.Num) api.Num{
		"Normal":  func(x, _ api.Num) api.Num { return r.Normal(x) },
		"Add":     r.Add,
		"Sub":     r.Sub,
		"Mul":     r.Mul,
		"Quo":     func(x, y api.Num) api.Num { z, _ := r.Quo(x, y); return z },
		"Norm":    func(x, _ api.Num) api.Num { return r.Norm(x) },
		"Trace":   func(x, _ api.Num) api.Num { return r.Trace(x) },
		"Floor":   func(x, _ api.Num) api.Num { return api.Num{D: r.Floor(x)} },
		"Scaled":  func(x, _ api.Num) api.Num { n, _ := r.Scaled(x, 0); return api.Num{D: n} },
		"Cross":   func(x, y api.Num) api.Num { return r.Cross(api.Vec{X: x, Y: y}, api.Vec{X: y}) },
		"Sum":     func(x, y api.Num) api.Num { return r.Sum(api.Vec{X: x}, api.Vec{X: y}).X },
		"Times":   func(x, y api.Num) api.Num { return r.Times(x, api.Vec{Y: y}).Y },
		"Apply":   func(x, y api.Num) api.Num { return r.Apply(api.Mat{A: x}, api.Vec{X: y}).X },
		"Product": func(x, y api.Num) api.Num { return r.Product(api.Mat{A: x}, api.Mat{B: y}).B },
		"Parse":   func(x, _ api.Num) api.Num { z, _ := r.Parse(r.Format(x)); return z },
	}
	for name, call := range calls {
		for _, a := range values {
			for _, b := range values {
				x, y := clone(a), clone(b)
				z := call(x, y)
				again := clone(z)
				spoilNum(z)
				wantNum(t, name+" keeps its first argument", x, a)
				wantNum(t, name+" keeps its second argument", y, b)
				z = call(x, y)
				wantNum(t, name+" again", z, again)
				spoilNum(x)
				spoilNum(y)
				wantNum(t, name+" keeps its result", z, again)
			}
		}
	}
	u := api.Vec{X: field.Whole(3), Y: field.Whole(5)}
	m := api.Mat{A: u.X, B: u.Y, C: u.Y, D: u.X}
	r.Sign(u.X)
	r.Cmp(u.X, u.Y)
	wantVec(t, "the vector", u, api.Vec{X: field.Whole(3), Y: field.Whole(5)})
	n := r.Product(m, m)
	before := clone(n.D)
	spoilNum(n.A)
	wantNum(t, "the numbers of a matrix share no memory", n.D, before)
	whole := field.Whole(5)
	spoilNum(whole)
	wantNum(t, "Whole is new each time", field.Whole(5), num([]int{1}, []int{5}))
}

// R3: fields that are given, or read, are new each time.
func TestFieldMemory(t *testing.T) {
	spoil(field.Rational().Poly)
	wantField(t, "Rational", field.Rational(), api.Field{Poly: []int{0, 1}, Den: 1})
	for _, n := range cosines {
		f, _ := field.Cosine(n)
		before := text(f)
		spoil(f.Poly)
		f, _ = field.Cosine(n)
		want(t, "Cosine", text(f), before)
		field.Check(f)
		field.FormatField(f)
		want(t, "Check and FormatField", text(f), before)
	}
}

// R2: no argument makes a function panic.
func TestNoPanic(t *testing.T) {
	odd := []int{math.MinInt, math.MinInt + 1, -1, 0, 1, 2, math.MaxInt - 1, math.MaxInt}
	for _, a := range odd {
		for _, b := range odd {
			for _, c := range odd {
				f := api.Field{Poly: []int{a, b, 1}, Lo: b, Hi: c, Den: a}
				field.Check(f)
				field.Open(f)
				field.FormatField(f)
				x, y := []int{a, b, c}, []int{c, a}
				field.DivMod(x, y)
				field.Gcd(x, y)
				field.Small(x)
				field.Small(y)
			}
			field.Ratio(a, b)
		}
		field.Of(a)
		field.Whole(a)
		field.Root(a)
		field.Cosine(a)
	}
	var r *field.Real
	r.Apply(api.Mat{}, api.Vec{})
	for _, r := range samples(t) {
		for _, a := range odd {
			x := num([]int{a, a}, []int{a}, []int{a, 1}, []int{a}, []int{a}, []int{a}, []int{a})
			r.Quo(x, x)
			r.Norm(x)
			r.Floor(x)
			r.Scaled(x, a)
			r.Parse(r.Format(x))
		}
	}
}
