package homology_test

import (
	"math/big"
	"math/rand"
	"slices"
	"testing"

	"flatland/api"
	"flatland/exchange"
	"flatland/homology"
)

// P8.5, example 4.
func TestMatrixExamples(t *testing.T) {
	m, e := homology.Form(api.Rows{Top: []int{0, 1}, Bottom: []int{1, 0}})
	wantLists(t, "Form", m, e, [][]int{{0, 1}, {-1, 0}}, api.OK)
	m, e = homology.Invariants([][]int{{2, 4}, {6, 8}})
	wantLists(t, "Invariants", m, e, [][]int{{2}, {4}}, api.OK)
}

// formOf follows the definition.
func formOf(r api.Rows) [][]int {
	before := func(row []int, a, b int) bool { return slices.Index(row, a) < slices.Index(row, b) }
	var m [][]int
	for a := range r.Top {
		row := make([]int, len(r.Top))
		for b := range row {
			if before(r.Top, a, b) && before(r.Bottom, b, a) {
				row[b] = 1
			}
			if before(r.Top, b, a) && before(r.Bottom, a, b) {
				row[b] = -1
			}
		}
		m = append(m, row)
	}
	return m
}

// P8.5: the form of rows, irreducible or not, renumbered or not.
func TestForm(t *testing.T) {
	for n := 2; n <= 4; n++ {
		for _, top := range permutations(n) {
			for _, bottom := range permutations(n) {
				r := api.Rows{Top: top, Bottom: bottom}
				m, e := homology.Form(r)
				wantLists(t, "Form", m, e, formOf(r), api.OK)
			}
		}
	}
	r := rand.New(rand.NewSource(41))
	for range 100 {
		n := 2 + r.Intn(7)
		rows := api.Rows{Top: r.Perm(n), Bottom: r.Perm(n)}
		m, e := homology.Form(rows)
		wantLists(t, "Form", m, e, formOf(rows), api.OK)
	}
	m, e := homology.Form(api.Rows{Top: []int{2, 0, 1}, Bottom: []int{0, 1, 2}})
	wantLists(t, "Form of rows that are not renumbered", m, e, [][]int{{0, 0, -1}, {0, 0, -1}, {1, 1, 0}}, api.OK)
	for _, c := range []struct {
		top, bottom []int
		e           api.Errno
	}{
		{nil, nil, api.ErrShape},
		{[]int{0}, []int{0}, api.ErrShape},
		{[]int{0, 1}, []int{0, 1, 2}, api.ErrShape},
		{identity(9), identity(9), api.ErrShape},
		{identity(8), identity(8), api.OK},
		{[]int{0, 2}, []int{0, 1}, api.ErrForm},
		{[]int{0, 1}, []int{1, 1}, api.ErrForm},
		{[]int{0, -1}, []int{most, 1}, api.ErrForm},
	} {
		rows := api.Rows{Top: c.top, Bottom: c.bottom}
		m, e := homology.Form(rows)
		want(t, "the error of Form", e, c.e)
		want(t, "is that of CheckRows", e, exchange.CheckRows(rows))
		want(t, "nothing beside it", e != api.OK && len(m) > 0, false)
	}
}

// rankBy returns the number of invariant factors that are not 0.
func rankBy(t *testing.T, m [][]int) int {
	t.Helper()
	list, e := homology.Invariants(m)
	want(t, "no error", e, api.OK)
	return len(slices.DeleteFunc(list, func(d api.Int) bool { return len(d) == 0 }))
}

// P8.7: the form is antisymmetric, its rank is twice the genus of the suspension, and steps of Rauzy induction change it by their matrices.
func TestFormAndInduction(t *testing.T) {
	r := rand.New(rand.NewSource(42))
	for range 300 {
		n := 2 + r.Intn(7)
		rows := api.Rows{Top: r.Perm(n), Bottom: r.Perm(n)}
		m, _ := homology.Form(rows)
		for i := range m {
			for j := range m {
				want(t, "antisymmetric", m[i][j], -m[j][i])
			}
		}
		orders, e := exchange.Orders(rows)
		if e != api.OK {
			want(t, "the rank is even", rankBy(t, m)%2, 0)
			continue
		}
		sum := 0
		for _, d := range orders {
			sum += d
		}
		want(t, "the rank is twice the genus", rankBy(t, m), sum+2)
		for kind := range 2 {
			next, step, e := exchange.Move(rows, kind)
			want(t, "no error", e, api.OK)
			q, e := homology.Form(next)
			wantLists(t, "the form after a step", product(product(transposed(step), m), step), api.OK, q, e)
		}
		kinds := make([]int, 20)
		for i := range kinds {
			kinds[i] = r.Intn(2)
		}
		next, path, _ := exchange.Follow(rows, kinds)
		q, e := homology.Form(next)
		wantLists(t, "the form after a path", product(product(transposed(path), m), path), api.OK, q, e)
	}
}

// wantInvariants checks invariant factors.
func wantInvariants(t *testing.T, m [][]int, right []*big.Int) {
	t.Helper()
	list, e := homology.Invariants(m)
	same := slices.EqualFunc(list, right, func(x api.Int, y *big.Int) bool { return isNormal(x) && valueOf(x).Cmp(y) == 0 })
	if !same || e != api.OK {
		t.Errorf("Invariants of %v: %v, %d, want %v", m, list, e, right)
	}
}

// randomMatrix returns a matrix whose numbers a function makes.
func randomMatrix(rows, columns int, number func(i, j int) int) [][]int {
	m := make([][]int, rows)
	for i := range m {
		for j := range columns {
			m[i] = append(m[i], number(i, j))
		}
	}
	return m
}

// numbers are ways to make matrices: of small and large numbers, many of them 0, with many common divisors, and of a small rank.
func numbers(r *rand.Rand) []func(i, j int) int {
	a, b := r.Intn(11)-5, r.Intn(11)-5
	return []func(i, j int) int{
		func(i, j int) int { return r.Intn(7) - 3 },
		func(i, j int) int { return r.Intn(2000001) - 1000000 },
		func(i, j int) int { return r.Intn(2) * (r.Intn(21) - 10) },
		func(i, j int) int { return (r.Intn(11) - 5) << r.Intn(10) },
		func(i, j int) int { return 6 * (r.Intn(3) + 2*r.Intn(2)*i) },
		func(i, j int) int { return a*i*j + b*(i+j) },
		func(i, j int) int { return []int{12, 18, 20, 30, 60, 0}[r.Intn(6)] },
		func(i, j int) int { return 0 },
		func(i, j int) int { return 7 },
		func(i, j int) int { return map[bool]int{true: r.Intn(50)}[i == j] },
		func(i, j int) int { return 5040 / (1 + (i+2*j)%7) },
	}
}

// P8.5: the invariant factors of small matrices, by all their minors.
func TestInvariantsByMinors(t *testing.T) {
	r := rand.New(rand.NewSource(43))
	for range 60 {
		for _, number := range numbers(r) {
			m := randomMatrix(r.Intn(5), r.Intn(5), number)
			wantInvariants(t, m, invariantsBy(m))
		}
	}
	for range 4 {
		for _, number := range numbers(r) {
			m := randomMatrix(4+r.Intn(2), 5+r.Intn(2), number)
			wantInvariants(t, m, invariantsBy(m))
		}
	}
	for _, m := range [][][]int{nil, {}, {nil}, {{}, {}, nil}, slices.Repeat([][]int{{}}, 40)} {
		wantInvariants(t, m, nil)
	}
	for _, x := range []int{0, 1, -1, 5, -1000000, 1000000} {
		wantInvariants(t, [][]int{{x}}, []*big.Int{new(big.Int).Abs(big.NewInt(int64(x)))})
	}
	wantInvariants(t, [][]int{{0, 0, 6}, {0, 4, 0}}, bigs([]int{2, 12}))
	wantInvariants(t, [][]int{{1000000, 0}, {0, 999999}}, bigs([]int{1, 999999000000}))
	wantInvariants(t, [][]int{{0, 0}, {0, 0}, {0, 0}}, bigs([]int{0, 0}))
}

// scrambled returns a matrix with the same invariant factors, with numbers of at most 1000000.
func scrambled(r *rand.Rand, m [][]int, steps int) [][]int {
	for step := range steps {
		i, j := r.Intn(len(m)), r.Intn(len(m))
		row := times(-1, m[i])
		if i != j {
			row = added(m[i], r.Intn(7)-3, m[j])
		}
		if slices.Max(row) <= 1000000 && slices.Min(row) >= -1000000 {
			m[i] = row
		}
		if step%5 == 0 {
			m = transposed(m)
		}
	}
	return m
}

// P8.5: matrices that are made of diagonal ones.
func TestInvariantsOfKnownMatrices(t *testing.T) {
	r := rand.New(rand.NewSource(44))
	for _, c := range [][]int{
		{1, 1, 1, 1, 1},
		{1, 2, 4, 8, 16, 32, 64, 128, 256},
		{2, 2, 6, 6, 30, 30, 210, 0, 0},
		{3, 3, 3, 9, 9, 0},
		{1, 1, 1, 1, 1, 1, 1, 1, 1, 1, 1, 1, 1, 1, 1, 1, 1, 1, 1, 1, 999983},
		{1, 1, 7, 7, 49, 49, 343, 343, 2401},
		{0, 0, 0, 0},
		{5, 5, 5, 5, 5, 5, 5, 5, 5, 5, 5, 5, 5, 5, 5, 5, 5, 5, 5, 5, 5, 5, 5, 5, 5, 5, 5, 5, 5, 5, 5, 5, 5, 5, 5, 5, 5, 5, 5, 5},
		{1, 10, 100, 1000, 10000, 100000, 1000000, 0},
	} {
		for range 5 {
			n := min(len(c)+r.Intn(3), 40)
			m := randomMatrix(len(c), n, func(i, j int) int { return map[bool]int{true: c[i]}[i == j] })
			m = scrambled(r, m, 30*len(c))
			if r.Intn(2) == 0 {
				m = transposed(m)
			}
			wantInvariants(t, m, bigs(c))
		}
	}
}

// P8.5: matrices as large as they may be: the product of the factors is the determinant, the first one the greatest common divisor of all numbers, and each one divides the next one; the matrix with rows and columns exchanged, and in another order, has the same ones.
func TestLargeInvariants(t *testing.T) {
	r := rand.New(rand.NewSource(45))
	for k, number := range numbers(r) {
		m := randomMatrix(40, 40, number)
		list, e := homology.Invariants(m)
		want(t, "no error", e, api.OK)
		want(t, "their number", len(list), 40)
		full, product, last := true, big.NewInt(1), big.NewInt(1)
		for _, d := range list {
			x := valueOf(d)
			want(t, "the normal form", isNormal(d), true)
			if full = full && x.Sign() > 0; !full {
				want(t, "0 behind 0", x.Sign(), 0)
				continue
			}
			want(t, "each one divides the next one", new(big.Int).Rem(x, last).Sign(), 0)
			last = x
			product.Mul(product, x)
		}
		rank, minor := rankAndMinor(m)
		want(t, "the rank", rankBy(t, m), rank)
		want(t, "the product divides a minor", new(big.Int).Rem(minor, product).Sign(), 0)
		if full {
			want(t, "the determinant", product.CmpAbs(minor), 0)
		}
		for _, p := range []int{2, 3, 5, 7, 11, 999983} {
			n := 0
			for _, d := range list {
				if new(big.Int).Rem(valueOf(d), big.NewInt(int64(p))).Sign() != 0 {
					n++
				}
			}
			want(t, "the rank modulo a prime", n, rankModulo(m, p))
		}
		common := new(big.Int)
		for _, row := range m {
			for _, x := range row {
				common.GCD(nil, nil, common, new(big.Int).Abs(big.NewInt(int64(x))))
			}
		}
		want(t, "the first one", valueOf(list[0]).Cmp(common), 0)
		if k > 3 {
			other, e := homology.Invariants(transposed(m))
			wantLists(t, "the transposed matrix", other, e, list, api.OK)
			m[0], m[13], m[7] = m[13], times(-1, m[7]), m[0]
			other, e = homology.Invariants(m)
			wantLists(t, "rows in another order", other, e, list, api.OK)
		}
	}
	// The number 1000000 on the diagonal: the last factors are large.
	m := randomMatrix(40, 40, func(i, j int) int { return map[int]int{0: 1000000, 1: -999999}[(j-i+40)%40] })
	list, e := homology.Invariants(m)
	want(t, "no error", e, api.OK)
	right := new(big.Int).Exp(big.NewInt(1000000), big.NewInt(40), nil)
	right.Sub(right, new(big.Int).Exp(big.NewInt(999999), big.NewInt(40), nil))
	want(t, "the last factor", valueOf(list[39]).Cmp(right), 0)
	want(t, "the one before", valueOf(list[38]).String(), "1")
}

// P8.5: the errors of matrices, in the order in which they are listed.
func TestInvariantErrors(t *testing.T) {
	zeros := func(rows, columns int) [][]int { return randomMatrix(rows, columns, func(i, j int) int { return 0 }) }
	for what, c := range map[string]struct {
		m [][]int
		e api.Errno
	}{
		"40 rows and columns":         {zeros(40, 40), api.OK},
		"41 rows":                     {zeros(41, 1), api.ErrLarge},
		"41 empty rows":               {zeros(41, 0), api.ErrLarge},
		"41 columns":                  {zeros(1, 41), api.ErrLarge},
		"different lengths":           {[][]int{{1, 2}, {3}}, api.ErrShape},
		"a longer row":                {[][]int{{1}, {3}, {4, 5}}, api.ErrShape},
		"an empty row":                {[][]int{nil, {1}}, api.ErrShape},
		"the first row empty":         {[][]int{{1}, nil}, api.ErrShape},
		"a number out of range":       {[][]int{{1000000, -1000000}, {0, 1000001}}, api.ErrRange},
		"a negative one":              {[][]int{{-1000001}}, api.ErrRange},
		"the least int":               {[][]int{{-most - 1}}, api.ErrRange},
		"the greatest int":            {[][]int{{most}}, api.ErrRange},
		"lengths and range":           {[][]int{{1000001, 1}, {0}}, api.ErrShape},
		"41 rows of other lengths":    {append(zeros(41, 2), nil), api.ErrShape},
		"41 columns and out of range": {[][]int{append(make([]int, 40), most)}, api.ErrLarge},
		"41 rows and out of range":    {append(zeros(40, 1), []int{most}), api.ErrLarge},
	} {
		list, e := homology.Invariants(c.m)
		want(t, "Invariants of a matrix with "+what, e, c.e)
		want(t, "nothing beside the error", e != api.OK && len(list) > 0, false)
	}
}
