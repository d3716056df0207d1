package homology_test

import (
	"math/big"
	"math/rand"
	"slices"
	"testing"

	"flatland/api"
	"flatland/homology"
	"flatland/origami"
)

// P8.2, examples 1 and 3.
func TestBasisExamples(t *testing.T) {
	a, b := []int{1, 0}, []int{0, 1}
	want(t, "the basis of the torus", homology.CheckBasis(torus(), [][]int{a, b}), api.OK)
	rank, e := homology.Rank(torus())
	wantBoth(t, "the rank of the torus", rank, e, 2, api.OK)
	rank, e = homology.Rank(ell())
	wantBoth(t, "the rank of the L", rank, e, 4, api.OK)
	l, e := homology.Coordinates(torus(), [][]int{a, b}, []int{7, -3})
	wantList(t, "Coordinates", l, e, []int{7, -3}, api.OK)
	l, e = homology.Coordinates(torus(), [][]int{{1, 0}, {1, 1}}, []int{7, -3})
	wantList(t, "Coordinates in another basis", l, e, []int{10, -3}, api.OK)
}

// P8.2, P8.7: the rank is twice the genus of all parts.
func TestRank(t *testing.T) {
	r := rand.New(rand.NewSource(11))
	for _, o := range append(origamis(r, 60, 300), small(4)...) {
		rank, e := homology.Rank(o)
		wantBoth(t, "Rank", rank, e, rankOf(o), api.OK)
		if genus, e := origami.Genus(o); e == api.OK {
			want(t, "the rank of one part", rank, 2*genus)
		}
	}
	rank, e := homology.Rank(squares(identity(60), identity(60)))
	wantBoth(t, "the rank of 60 tori", rank, e, 120, api.OK)
}

// P8.2: what Basis returns is a basis, also where it is too long for a list of cycles.
func TestBasis(t *testing.T) {
	r := rand.New(rand.NewSource(12))
	list := append(origamis(r, 60, 60), squares(identity(60), identity(60)), squares(r.Perm(60), r.Perm(60)))
	for _, o := range append(list, small(4)...) {
		b := basisOf(t, o)
		want(t, "the number of elements", len(b), rankOf(o))
		for _, c := range b {
			want(t, "is a cycle", slices.ContainsFunc(boundaryOf(o, c), func(x int) bool { return x != 0 }), false)
			want(t, "in the range of chains", slices.Max(c) <= api.MaxChain && slices.Min(c) >= -api.MaxChain, true)
		}
		want(t, "is a basis", isBasis(o, b), true)
		e := api.OK
		if len(b) > api.MaxRows {
			e = api.ErrLarge
		}
		want(t, "CheckBasis of it", homology.CheckBasis(o, b), e)
	}
}

// P8.2: lists of cycles are bases just if they and the boundaries have all cycles as combinations.
func TestCheckBasis(t *testing.T) {
	r := rand.New(rand.NewSource(13))
	for _, o := range origamis(r, 14, 60) {
		good := basisOf(t, o)
		for range 4 {
			b := mixed(r, o, good, 100, 30)
			want(t, "CheckBasis", homology.CheckBasis(o, b), api.OK)
			i, j := r.Intn(len(b)), r.Intn(len(b))
			for what, change := range map[string]func(b [][]int) [][]int{
				"without an element":       func(b [][]int) [][]int { return slices.Delete(b, i, i+1) },
				"with one more element":    func(b [][]int) [][]int { return append(b, b[j]) },
				"with a boundary":          func(b [][]int) [][]int { b[i] = squareOf(o, 0); return b },
				"with twice an element":    func(b [][]int) [][]int { b[i] = times(2, b[i]); return b },
				"with 0":                   func(b [][]int) [][]int { b[i] = times(0, b[i]); return b },
				"without elements":         func(b [][]int) [][]int { return nil },
				"with an element 3 times":  func(b [][]int) [][]int { b[i] = added(times(3, b[i]), 2, b[j]); return b },
				"with an element negative": func(b [][]int) [][]int { b[i] = times(-1, b[i]); return b },
				"exchanged":                func(b [][]int) [][]int { b[i], b[j] = b[j], b[i]; return b },
				"random":                   func(b [][]int) [][]int { b[i] = randomCycle(r, o, 1); return b },
				"random altogether": func(b [][]int) [][]int {
					for k := range b {
						b[k] = randomCycle(r, o, 1)
					}
					return b
				},
			} {
				changed := change(slices.Clone(b))
				e := api.ErrProof
				if isBasis(o, changed) {
					e = api.OK
				}
				want(t, "CheckBasis of a list "+what, homology.CheckBasis(o, changed), e)
			}
		}
	}
}

// P8.2: determinants that are 1 only modulo something, or only in size.
func TestCheckBasisDeterminants(t *testing.T) {
	for _, c := range []struct {
		a, b []int
		e    api.Errno
	}{
		{[]int{1, 0}, []int{0, -1}, api.OK},
		{[]int{0, 1}, []int{1, 0}, api.OK},
		{[]int{1000000, 999999}, []int{999999, 999998}, api.OK},
		{[]int{1000000, 999999}, []int{1000000, 999999}, api.ErrProof},
		{[]int{1000000, 999999}, []int{999999, 1000000}, api.ErrProof},
		{[]int{2, 1}, []int{1, 2}, api.ErrProof},
		{[]int{1, 1}, []int{1, -1}, api.ErrProof},
		{[]int{10000, 1}, []int{-1, 10000}, api.ErrProof}, // 100000001
		{[]int{65536, 1}, []int{-1, 65536}, api.ErrProof}, // 4294967297
		{[]int{0, 0}, []int{0, 0}, api.ErrProof},
	} {
		want(t, "CheckBasis", homology.CheckBasis(torus(), [][]int{c.a, c.b}), c.e)
	}
	// Determinants that are 0 and -1 modulo 2^64.
	four := beside(beside(torus(), torus()), beside(torus(), torus()))
	b := basisOf(t, four)
	want(t, "four tori", homology.CheckBasis(four, b), api.OK)
	for i, k := range []int{65536, 65536, 65536, 65536, 1, 1, 1, 1} {
		b[i] = times(k, b[i])
	}
	want(t, "the determinant 2^64", homology.CheckBasis(four, b), api.ErrProof)
	b = basisOf(t, four)
	for i := range b {
		b[i] = added(times(256, b[i]), 1, basisOf(t, four)[(i+1)%8])
	}
	want(t, "the determinant 2^64 - 1", homology.CheckBasis(four, b), api.ErrProof)
}

// large returns an origami of rank 40, and a basis with large numbers.
func large(t *testing.T, r *rand.Rand) (api.Origami, [][]int) {
	for {
		o := squares(r.Perm(41), r.Perm(41))
		if rankOf(o) == api.MaxRows {
			return o, mixed(r, o, basisOf(t, o), api.MaxChain, 20000)
		}
	}
}

// P8.2: a basis of as many elements as a list of cycles may have, with large numbers, and one with more.
func TestLargeBases(t *testing.T) {
	r := rand.New(rand.NewSource(14))
	o, b := large(t, r)
	most := 0
	for _, c := range b {
		most = max(most, slices.Max(c))
	}
	want(t, "the numbers are large", most > 100000, true)
	want(t, "CheckBasis", homology.CheckBasis(o, b), api.OK)
	multiples := make([]int, 40)
	multiples[3], multiples[17], multiples[39] = 1, -1, 1
	c := sumOf(multiples, b, 82)
	if slices.Max(c) <= api.MaxChain && slices.Min(c) >= -api.MaxChain {
		l, e := homology.Coordinates(o, b, c)
		wantList(t, "Coordinates", l, e, multiples, api.OK)
	}
	l, e := homology.Coordinates(o, b, b[7])
	wantList(t, "Coordinates of an element", l, e, edgeChain(20, 7), api.OK)
	// A small cycle is a sum of elements with large multiples, as its intersection numbers with them say.
	small := basisOf(t, o)[0]
	l, e = homology.Coordinates(o, b, small)
	want(t, "no error", e, api.OK)
	want(t, "the multiples are large", slices.Max(l) > 1000000000, true)
	for _, y := range b {
		sum := big.NewInt(int64(-crossed(o, small, y)))
		for i, x := range b {
			sum.Add(sum, new(big.Int).Mul(big.NewInt(int64(l[i])), big.NewInt(int64(crossed(o, x, y)))))
		}
		want(t, "an intersection number", sum.Sign(), 0)
	}
	b[0] = times(2, basisOf(t, o)[0])
	want(t, "CheckBasis of none", homology.CheckBasis(o, b), api.ErrProof)
	want(t, "CheckBasis of a longer list", homology.CheckBasis(o, append(b, nil)), api.ErrLarge)
	// Multiples that are powers of 1000, most of them too large for an int.
	b = basisOf(t, o)
	for i := range b[1:] {
		b[i] = added(b[i], 1000, b[i+1])
	}
	small = b[39]
	l, e = homology.Coordinates(o, b, small)
	wantList(t, "Coordinates of the last element", l, e, edgeChain(20, 39), api.OK)
	for i := range 40 {
		l, e = homology.Coordinates(o, b, basisOf(t, o)[i])
		if i < 35 {
			wantList(t, "Coordinates beyond the limit", l, e, nil, api.ErrLarge)
			continue
		}
		multiples := make([]int, 40)
		for k, x := range []int{1, -1000, 1000000, -1000000000, 1000000000000}[:40-i] {
			multiples[i+k] = x
		}
		wantList(t, "Coordinates up to the limit", l, e, multiples, api.OK)
	}
}

// P8.2: coordinates are the multiples of which a cycle is homologous to the sum.
func TestCoordinates(t *testing.T) {
	r := rand.New(rand.NewSource(15))
	for _, o := range origamis(r, 16, 60) {
		for _, steps := range []int{0, 5, 30} {
			b := mixed(r, o, basisOf(t, o), 1000, steps)
			multiples := make([]int, len(b))
			for i := range multiples {
				multiples[i] = r.Intn(21) - 10
			}
			c := added(sumOf(multiples, b, 2*len(o.Right)), r.Intn(100), squareOf(o, 0))
			l, e := homology.Coordinates(o, b, c)
			wantList(t, "Coordinates", l, e, multiples, api.OK)
			c = randomCycle(r, o, 10)
			l, e = homology.Coordinates(o, b, c)
			if e != api.OK || !areHomologous(o, c, sumOf(l, b, len(c))) {
				t.Errorf("Coordinates: %v, %d", l, e)
			}
			l, e = homology.Coordinates(o, b, times(0, c))
			wantList(t, "Coordinates of 0", l, e, make([]int, len(b)), api.OK)
		}
	}
}

// P8.2: multiples up to 10^12 are not too large.
func TestLargeCoordinates(t *testing.T) {
	b := [][]int{{1000000, 999999}, {999999, 999998}} // the determinant is -1
	for _, c := range []struct {
		c, l []int
		e    api.Errno
	}{
		// The multiples for x, y are -999998 x + 999999 y and 999999 x - 1000000 y.
		{[]int{1, 0}, []int{-999998, 999999}, api.OK},
		{[]int{0, 1}, []int{999999, -1000000}, api.OK},
		{[]int{0, 1000000}, []int{999999000000, -1000000000000}, api.OK},
		{[]int{0, -1000000}, []int{-999999000000, 1000000000000}, api.OK},
		{[]int{-1, 1000000}, nil, api.ErrLarge}, // -1000000999999
		{[]int{-999999, 2}, nil, api.ErrLarge},  // -1000000000001
		{[]int{999999, -2}, nil, api.ErrLarge},  // 1000000000001
		{[]int{1, -1000000}, nil, api.ErrLarge},
		{[]int{1000000, -1000000}, nil, api.ErrLarge},
		{[]int{1, 1000000}, []int{999998000002, -999999000001}, api.OK},
		{[]int{1000000, 1000000}, []int{1000000, -1000000}, api.OK},
	} {
		l, e := homology.Coordinates(torus(), b, c.c)
		wantList(t, "Coordinates", l, e, c.l, c.e)
	}
}

// P8.2: a multiple that is no int is too large, also if all others are not.
func TestOneLargeCoordinate(t *testing.T) {
	const n, last = 11, 21
	o := squares(identity(n), identity(n)) // eleven tori, each edge of which is an element of a basis
	b := make([][]int, 2*n)
	for i := range b {
		b[i] = edgeChain(n, i)
	}
	c := make([]int, 2*n)
	for i := range n - 1 {
		b[i][n+i], b[n+i][last] = 1000000, -1000000
		c[i] = 1000000
	}
	multiples := make([]int, 2*n)
	for i := range 9 {
		multiples[i], multiples[n+i] = 1000000, -1000000000000
	}
	c[9], c[10] = 0, 7
	multiples[10] = 7
	want(t, "CheckBasis", homology.CheckBasis(o, b), api.OK)
	c[last] = 5
	// The last one is 5 less 9 times 10^18, and 5 less 10^19 with one more.
	_, e := homology.Coordinates(o, b, c)
	want(t, "a multiple beyond the limit", e, api.ErrLarge)
	c[9] = 1000000
	_, e = homology.Coordinates(o, b, c)
	want(t, "a multiple that is no int", e, api.ErrLarge)
	for i := range n - 1 {
		b[n+i][last] = 0
	}
	multiples[9], multiples[n+9], multiples[last] = 1000000, -1000000000000, 5
	l, e := homology.Coordinates(o, b, c)
	wantList(t, "all others", l, e, multiples, api.OK)
}

// P8.2: the errors of lists of cycles, in the order in which they are listed.
func TestCycleListErrors(t *testing.T) {
	o := grid(2, 1) // two vertices; the bottom edges are no cycles
	a, b := []int{1, 1, 0, 0}, []int{0, 0, 1, 0}
	open, out, short := []int{1, 0, 0, 0}, []int{0, 0, 0, api.MaxChain + 1}, []int{0}
	many := slices.Repeat([][]int{a}, 41)
	for _, c := range []struct {
		list     [][]int
		e, proof api.Errno // the error of the list, and of a list of cycles that is no basis
	}{
		{[][]int{a, b}, api.OK, api.OK},
		{[][]int{b, a}, api.OK, api.OK},
		{nil, api.OK, api.ErrProof},
		{[][]int{}, api.OK, api.ErrProof},
		{[][]int{a}, api.OK, api.ErrProof},
		{[][]int{a, a}, api.OK, api.ErrProof},
		{[][]int{a, b, b}, api.OK, api.ErrProof},
		{many[:40], api.OK, api.ErrProof},
		{many, api.ErrLarge, api.ErrLarge},
		{append(many[:40:40], short), api.ErrLarge, api.ErrLarge},
		{slices.Repeat([][]int{nil}, 41), api.ErrLarge, api.ErrLarge},
		{[][]int{short}, api.ErrShape, api.ErrShape},
		{[][]int{a, nil}, api.ErrShape, api.ErrShape},
		{[][]int{a, append(slices.Clone(b), 0)}, api.ErrShape, api.ErrShape},
		{[][]int{a, out}, api.ErrRange, api.ErrRange},
		{[][]int{open, out}, api.ErrForm, api.ErrForm},
		{[][]int{out, open}, api.ErrRange, api.ErrRange},
		{[][]int{open, short}, api.ErrForm, api.ErrForm},
		{[][]int{short, open}, api.ErrShape, api.ErrShape},
		{[][]int{a, open}, api.ErrForm, api.ErrForm},
		{[][]int{{api.MaxChain + 1, 0, 0, 0}}, api.ErrRange, api.ErrRange}, // no cycle, either
	} {
		want(t, "CheckBasis", homology.CheckBasis(o, c.list), c.proof)
		_, e := homology.Gram(o, c.list)
		want(t, "Gram", e, c.e)
		want(t, "CheckSymplectic", homology.CheckSymplectic(o, c.list) != api.ErrProof, c.e != api.OK || c.proof == api.OK && slices.Equal(c.list[0], a))
		_, e = homology.Coordinates(o, c.list, a)
		want(t, "Coordinates", e, c.proof)
		_, e = homology.Cocycle(o, "", c.list, [][]int{a, b})
		want(t, "Cocycle", e, c.proof)
		_, e = homology.Cocycle(o, "", [][]int{a, b}, c.list)
		want(t, "Cocycle to it", e, c.proof)
	}
	for _, c := range []struct {
		c []int
		e api.Errno
	}{{nil, api.ErrShape}, {short, api.ErrShape}, {out, api.ErrRange}, {open, api.ErrForm}, {a, api.OK}} {
		l, e := homology.Coordinates(o, [][]int{a, b}, c.c)
		want(t, "Coordinates of a cycle with an error", e, c.e)
		want(t, "nothing beside it", e != api.OK && len(l) > 0, false)
		_, e = homology.Coordinates(o, [][]int{a, a}, c.c)
		want(t, "Coordinates in no basis", e, api.ErrProof)
		_, e = homology.Intersect(o, c.c, a)
		want(t, "Intersect with an error first", e, c.e)
		_, e = homology.Intersect(o, a, c.c)
		want(t, "Intersect with an error second", e, c.e)
		_, e = homology.Intersect(o, open, c.c)
		want(t, "Intersect with errors", e, api.ErrForm)
	}
}
