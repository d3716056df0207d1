package exchange_test

import (
	"math/big"
	"math/rand"
	"slices"
	"testing"

	"flatland/api"
	"flatland/exchange"
	"flatland/field"
)

// want checks a value that contains no lists.
func want[T comparable](t *testing.T, what string, a, b T) {
	t.Helper()
	if a != b {
		t.Errorf("%s: %v, want %v", what, a, b)
	}
}

// wantSame checks a value with lists and an error.
func wantSame[T any](t *testing.T, what string, same func(a, b T) bool, a T, e api.Errno, b T, f api.Errno) {
	t.Helper()
	if !same(a, b) || e != f {
		t.Errorf("%s: %v, %d, want %v, %d", what, a, e, b, f)
	}
}

// wantList checks a list and an error; nil and empty lists are the same.
func wantList[T comparable](t *testing.T, what string, a []T, e api.Errno, b []T, f api.Errno) {
	t.Helper()
	wantSame(t, what, slices.Equal, a, e, b, f)
}

// The same values are those with the same elements; nil and empty lists are the same.

func sameNum(x, y api.Num) bool {
	return slices.EqualFunc(x.C, y.C, slices.Equal) && slices.Equal(x.D, y.D)
}

func sameNums(a, b []api.Num) bool { return slices.EqualFunc(a, b, sameNum) }

func sameField(a, b api.Field) bool {
	return slices.Equal(a.Poly, b.Poly) && a.Lo == b.Lo && a.Hi == b.Hi && a.Den == b.Den
}

func sameRows(a, b api.Rows) bool {
	return slices.Equal(a.Top, b.Top) && slices.Equal(a.Bottom, b.Bottom)
}

func sameExchange(a, b api.Exchange) bool {
	return sameField(a.Field, b.Field) && sameRows(rowsOf(a), rowsOf(b)) && sameNums(a.Lengths, b.Lengths)
}

func sameMatrix(a, b [][]int) bool { return slices.EqualFunc(a, b, slices.Equal) }

func sameDiagram(a, b api.Diagram) bool {
	return slices.EqualFunc(a.Rows, b.Rows, sameRows) && slices.Equal(a.Next, b.Next)
}

func sameBelts(a, b []api.Belt) bool {
	return slices.EqualFunc(a, b, func(x, y api.Belt) bool {
		return sameNum(x.Left, y.Left) && sameNum(x.Width, y.Width) && slices.Equal(x.Code, y.Code)
	})
}

func sameSurface(a, b api.Surface) bool {
	sameVec := func(u, v api.Vec) bool { return sameNum(u.X, v.X) && sameNum(u.Y, v.Y) }
	sameVecs := func(a, b []api.Vec) bool { return slices.EqualFunc(a, b, sameVec) }
	return sameField(a.Field, b.Field) && slices.EqualFunc(a.Faces, b.Faces, sameVecs) && slices.EqualFunc(a.Glue, b.Glue, slices.Equal)
}

// image is a point with a letter or a number of steps.
type image struct {
	p api.Num
	n int
}

func sameImage(a, b image) bool { return sameNum(a.p, b.p) && a.n == b.n }

// ratio returns a fraction.
func ratio(a, b int) api.Num {
	x, _ := field.Ratio(a, b)
	return x
}

// wholes returns whole numbers.
func wholes(list ...int) []api.Num {
	var l []api.Num
	for _, n := range list {
		l = append(l, field.Whole(n))
	}
	return l
}

// rows returns the rows with a text that is right.
func rows(t *testing.T, text string) api.Rows {
	t.Helper()
	r, e := exchange.Parse(text)
	if e != api.OK {
		t.Fatalf("%q: %d", text, e)
	}
	return r
}

// rowsOf returns the rows of an exchange.
func rowsOf(x api.Exchange) api.Rows { return api.Rows{Top: x.Top, Bottom: x.Bottom} }

// over returns the exchange with these rows over the fractions.
func over(t *testing.T, text string, lengths ...int) api.Exchange {
	t.Helper()
	r := rows(t, text)
	return api.Exchange{Field: field.Rational(), Top: r.Top, Bottom: r.Bottom, Lengths: wholes(lengths...)}
}

// diagonal is an exchange over the field of the square root of 2 with the lengths 1 and w.
func diagonal(t *testing.T) api.Exchange {
	t.Helper()
	x := over(t, "0 1 / 1 0", 1, 1)
	x.Field = root2()
	x.Lengths[1] = api.Num{C: []api.Int{nil, {1}}}
	return x
}

// root2 is the field of the square root of 2.
func root2() api.Field {
	f, _ := field.Root(2)
	return f
}

// open opens a field.
func open(t *testing.T, f api.Field) *field.Real {
	t.Helper()
	r, e := field.Open(f)
	if e != api.OK {
		t.Fatalf("Open of %v: %d", f, e)
	}
	return r
}

// permutations returns all orders of n letters.
func permutations(n int) [][]int {
	if n == 0 {
		return [][]int{nil}
	}
	var all [][]int
	for _, p := range permutations(n - 1) {
		for i := range n {
			all = append(all, slices.Insert(slices.Clone(p), i, n-1))
		}
	}
	return all
}

// identity returns 0, .., n - 1.
func identity(n int) []int {
	var l []int
	for i := range n {
		l = append(l, i)
	}
	return l
}

// isReducible reports whether rows are reducible, by the sets of their first letters alone.
func isReducible(r api.Rows) bool {
	a, b := 0, 0
	for i := range len(r.Top) - 1 {
		a, b = a|1<<r.Top[i], b|1<<r.Bottom[i]
		if a == b {
			return true
		}
	}
	return false
}

// irreducible returns all renumbered irreducible rows of n letters.
func irreducible(n int) []api.Rows {
	var all []api.Rows
	for _, p := range permutations(n) {
		if r := (api.Rows{Top: identity(n), Bottom: p}); !isReducible(r) {
			all = append(all, r)
		}
	}
	return all
}

// randomRows returns random rows, which need not be renumbered, and may be reducible only if they are allowed to.
func randomRows(r *rand.Rand, n int, mayReduce bool) api.Rows {
	for {
		x := api.Rows{Top: r.Perm(n), Bottom: r.Perm(n)}
		if mayReduce || !isReducible(x) {
			return x
		}
	}
}

// badRows are rows that are wrong, with their errors.
func badRows() map[string]struct {
	r api.Rows
	e api.Errno
} {
	type bad = struct {
		r api.Rows
		e api.Errno
	}
	const most = int(^uint(0) >> 1)
	return map[string]bad{
		"no letters":                      {api.Rows{}, api.ErrShape},
		"one letter":                      {api.Rows{Top: []int{0}, Bottom: []int{0}}, api.ErrShape},
		"nine letters":                    {api.Rows{Top: identity(9), Bottom: identity(9)}, api.ErrShape},
		"no Bottom":                       {api.Rows{Top: []int{0, 1}}, api.ErrShape},
		"no Top":                          {api.Rows{Bottom: []int{0, 1}}, api.ErrShape},
		"a longer Top":                    {api.Rows{Top: []int{0, 1, 2}, Bottom: []int{1, 0}}, api.ErrShape},
		"two lengths and wrong letters":   {api.Rows{Top: []int{5, 5}, Bottom: []int{0, 1, 2}}, api.ErrShape},
		"nine letters that are wrong":     {api.Rows{Top: make([]int, 9), Bottom: make([]int, 9)}, api.ErrShape},
		"a letter twice in Top":           {api.Rows{Top: []int{0, 0}, Bottom: []int{1, 0}}, api.ErrForm},
		"a letter twice in Bottom":        {api.Rows{Top: []int{0, 1, 2}, Bottom: []int{2, 1, 2}}, api.ErrForm},
		"letters from 1 on":               {api.Rows{Top: []int{1, 2}, Bottom: []int{2, 1}}, api.ErrForm},
		"a negative letter":               {api.Rows{Top: []int{0, -1}, Bottom: []int{0, -1}}, api.ErrForm},
		"a letter n":                      {api.Rows{Top: []int{0, 1}, Bottom: []int{2, 0}}, api.ErrForm},
		"the least and the greatest int":  {api.Rows{Top: []int{0, -most - 1}, Bottom: []int{most, 0}}, api.ErrForm},
		"eight letters, one of them away": {api.Rows{Top: identity(8), Bottom: []int{7, 6, 5, 4, 3, 2, 1, 1}}, api.ErrForm},
	}
}

// bigOf returns the value of an integer.
func bigOf(x []int) *big.Int {
	z := new(big.Int)
	for _, e := range slices.Backward(x) {
		z.Mul(z, big.NewInt(100000000)).Add(z, big.NewInt(int64(e)))
	}
	return z
}

// listOf returns the normal form of an integer, computed from its value alone.
func listOf(n *big.Int) []int {
	var x []int
	rest, e := new(big.Int).Set(n), new(big.Int)
	for rest.Sign() != 0 {
		rest.QuoRem(rest, big.NewInt(100000000), e)
		x = append(x, int(e.Int64()))
	}
	return x
}

// untidy returns a number with the same value that is not in normal form.
func untidy(r *rand.Rand, x api.Num, poly []int) api.Num {
	f := []int{-3, 100000000, 7, -100000001}[r.Intn(4)]
	d := x.D
	if len(d) == 0 {
		d = []int{1}
	}
	y := api.Num{D: append(field.Mul(d, field.Of(f)), 0)}
	for _, c := range x.C {
		c = append(field.Mul(c, field.Of(f)), 100000000, -1) // 0 in all
		y.C = append(y.C, c)
	}
	for len(y.C) <= len(poly) {
		y.C = append(y.C, nil)
	}
	// A multiple of the polynomial has the value 0.
	for i, c := range poly {
		y.C[i+1] = field.Add(y.C[i+1], field.Of(5*c))
	}
	return y
}

func untidyExchange(r *rand.Rand, x api.Exchange) api.Exchange {
	x = deep(x)
	for i, length := range x.Lengths {
		x.Lengths[i] = untidy(r, length, x.Field.Poly)
	}
	return x
}
